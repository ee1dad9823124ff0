package accept_test

import (
	"slices"
	"testing"

	"padlock/accept"
	"padlock/api"
)

// R1: calls with any numbers end without a panic, and tell the same of two
// acceptors to which the same happened; what happens to others has no effect.
func TestAnything(t *testing.T) {
	numbers := slices.Concat(below, []int{0, 1, 2, 8, 9, 10, 1 << 32, api.High - 9, api.High - 1, api.High}, above)
	for _, x := range numbers {
		for _, y := range numbers {
			for _, z := range numbers {
				wantTwins(t, x, y, z)
			}
		}
	}
}

func wantTwins(t *testing.T, x, y, z int) {
	t.Helper()
	a, b, other := accept.New(), accept.New(), accept.New()
	for _, n := range []int{x, y, z} {
		other.Promise(z)
		wantPromise(t, b, x, a.Promise(x))
		other.Trim(n)
		a.Trim(y)
		b.Trim(y)
		other.Accept(x, n, given(2))
		wantAccept(t, b, n, z, given(1), a.Accept(n, z, given(1)))
		wantTold(t, b, a.Ballot(), a.Done(), a.Votes()...)
	}
}

// R1: lists that are long make no call panic.
func TestLongLists(t *testing.T) {
	const n = 1 << 16
	a := made(t, 3, 0, vote(1, 3, given(1)))
	for _, b := range []api.Batch{{Reqs: make([]api.Req, n)}, {Fill: true, Reqs: make([]api.Req, n)}, {Reqs: slices.Repeat(full().Reqs, n)}} {
		wantAcceptLong(t, a, b)
		wantTold(t, a, 3, 0, vote(1, 3, given(1)))
	}
}

func wantAcceptLong(t *testing.T, a *accept.Acceptor, b api.Batch) {
	t.Helper()
	if code := a.Accept(3, 1, b); code != api.ErrArg {
		t.Errorf("a batch with %d requests is accepted with code %d", len(b.Reqs), code)
	}
}

// R1: many votes for one slot are no more than one.
func TestManyVotes(t *testing.T) {
	a := accept.New()
	for i := range 1 << 16 {
		wantAccept(t, a, i, 1+i%9, given(i), api.OK)
	}
	if len(a.Votes()) != 9 || a.Ballot() != 1<<16-1 {
		t.Errorf("there are %d votes up to %d", len(a.Votes()), a.Ballot())
	}
}

// R4

// roomy returns b in memory of its own, where its list goes on behind its end.
func roomy(b api.Batch) api.Batch {
	b.Reqs = append(slices.Clone(b.Reqs), keep(1), keep(9), api.Req{})[:len(b.Reqs)]
	return b
}

// scrawl writes into all of a list, and into its spare capacity.
func scrawl[T any](l []T, v T) {
	all := l[:cap(l)]
	for i := range all {
		all[i] = v
	}
}

// No call changes the batch that it is handed, nor what lies behind the end of
// its list, however it ends.
func TestBatchesStay(t *testing.T) {
	for _, b := range append(wellFormed(), notWellFormed()...) {
		mine := roomy(b)
		before := slices.Clone(mine.Reqs[:cap(mine.Reqs)])
		a := made(t, 3, 4, some()[1])
		for _, ballot := range []int{-1, 2, 3, 5} {
			for _, slot := range []int{0, 4, 5, 6, 13, 14} {
				a.Accept(ballot, slot, mine)
				a.Votes()
			}
		}
		a.Trim(9)
		a.Promise(9)
		if after := mine.Reqs[:cap(mine.Reqs)]; !slices.Equal(after, before) {
			t.Errorf("calls turned the requests %+v into %+v", before, after)
		}
	}
}

// Whoever writes into the requests that were handed in changes no vote, in none
// of the slots and acceptors that the batch was handed to.
func TestBatchesAreNotKept(t *testing.T) {
	for _, b := range wellFormed() {
		mine := roomy(b)
		one, other := accept.New(), accept.New()
		wantAccept(t, one, 3, 2, mine, api.OK)
		wantAccept(t, one, 3, 9, mine, api.OK)
		wantAccept(t, other, 4, 1, mine, api.OK)
		scrawl(mine.Reqs, keep(-7))
		wantTold(t, one, 3, 0, vote(2, 3, b), vote(9, 3, b))
		wantTold(t, other, 4, 0, vote(1, 4, b))
	}
}

// What is told is new memory, its requests and all spare capacity too: whoever
// writes into it changes neither the acceptor nor what was told before.
func TestVotesAreNewMemory(t *testing.T) {
	for _, b := range wellFormed() {
		votes := []api.Vote{vote(1, 3, b), vote(3, 2, given(3)), vote(4, 3, b), vote(9, 1, full())}
		a := made(t, 5, 0, votes...)
		first, second := a.Votes(), a.Votes()
		scrawlVotes(first)
		if !same(second, votes) {
			t.Errorf("writing into the first result turned the second into %+v", second)
		}
		scrawl(second[len(second):], vote(-7, -7, b))
		for _, v := range second {
			scrawl(v.Batch.Reqs[len(v.Batch.Reqs):], keep(-7))
		}
		if !same(second, votes) {
			t.Errorf("writing behind the ends of a result turned it into %+v", second)
		}
		wantTold(t, a, 5, 0, votes...)
		scrawlVotes(second)
		wantTold(t, a, 5, 0, votes...)
		wantAccept(t, a, 5, 4, given(4), api.OK)
		wantTold(t, a, 5, 0, votes[0], votes[1], vote(4, 5, given(4)), votes[3])
	}
}

// scrawlVotes writes into all that can be reached from the votes.
func scrawlVotes(votes []api.Vote) {
	for _, v := range votes {
		scrawl(v.Batch.Reqs, keep(-7))
	}
	scrawl(votes, vote(-7, -7, fill()))
}

// No two lists of one result share memory: whoever writes into one leaves the
// others.
func TestListsOfAResultAreApart(t *testing.T) {
	b := given(1)
	a := made(t, 5, 0, vote(1, 5, b), vote(2, 5, b), vote(3, 5, b))
	for at := range 3 {
		votes := a.Votes()
		all := votes[at].Batch.Reqs
		scrawl(all, keep(-7))
		for i, v := range votes {
			if i != at && !same([]api.Vote{v}, []api.Vote{vote(i+1, 5, b)}) {
				t.Errorf("writing into vote %d turned vote %d into %+v", at, i, v)
			}
		}
	}
}

// What was told stays as it is, whatever happens to the acceptor.
func TestResultsStay(t *testing.T) {
	a := made(t, 9, 4, some()...)
	told := a.Votes()
	for slot := 5; slot <= 13; slot++ {
		wantAccept(t, a, 10, slot, full(), api.OK)
	}
	a.Trim(13)
	wantAccept(t, a, 11, 14, given(1), api.OK)
	if !same(told, some()) {
		t.Errorf("what was told became %+v", told)
	}
}

// R6

func TestNil(t *testing.T) {
	var none *accept.Acceptor
	for _, n := range slices.Concat(below, []int{0, 1, 9, 10, api.High}, above) {
		none.Trim(n)
		wantPromise(t, none, n, api.ErrNone)
		for _, b := range []api.Batch{fill(), given(1), notWellFormed()[0], {Reqs: make([]api.Req, 9)}} {
			wantAccept(t, none, n, 1, b, api.ErrNone)
			wantAccept(t, none, 1, n, b, api.ErrNone)
		}
		wantTold(t, none, 0, 0)
	}
}
