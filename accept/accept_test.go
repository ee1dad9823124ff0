package accept_test

import (
	"cmp"
	"math"
	"slices"
	"testing"

	"padlock/accept"
	"padlock/api"
)

// below and above are numbers that no ballot, slot or Done may be; two of above
// would be if only their last bits counted.
var (
	below = []int{math.MinInt, math.MinInt + 1, -1 << 62, -api.High, -256, -9, -2, -1}
	above = []int{api.High + 1, api.High + 9, 1<<62 - 1, 1 << 62, math.MaxInt}
)

// keep returns a request that may be.
func keep(client int) api.Req {
	return api.Req{Client: client, Seq: client + 1, Cmd: api.Cmd{Kind: api.Keep, Session: 4}}
}

// given returns a batch with a request, of which each n has another.
func given(n int) api.Batch {
	take := api.Cmd{Kind: api.Take, Session: n + 1, Name: "door"}
	return api.Batch{View: n, Tip: api.Tip{View: 1, Slot: n}, Time: 2 * n, Reqs: []api.Req{{Client: n % 8, Seq: 1, Cmd: take}}}
}

func fill() api.Batch {
	return api.Batch{Fill: true}
}

// full returns a batch in which there is as much of all as there may be.
func full() api.Batch {
	b := api.Batch{View: api.High, Tip: api.Tip{View: api.High, Slot: api.High}, Time: api.High}
	for i := range 3 {
		c := api.Cmd{Kind: api.Take + i, Session: api.High, Name: "twelve-bytes"}
		b.Reqs = append(b.Reqs, api.Req{Client: 7 - i, Seq: api.High, Cmd: c})
	}
	return b
}

// wellFormed returns batches, each time anew.
func wellFormed() []api.Batch {
	return []api.Batch{
		{},
		fill(),
		{Reqs: []api.Req{}},
		{Fill: true, Reqs: []api.Req{}},
		{View: api.High},
		{Tip: api.Tip{View: api.High, Slot: 1}},
		{Time: api.High},
		given(1),
		{Reqs: []api.Req{keep(7), keep(0), keep(3)}},
		full(),
	}
}

// notWellFormed returns batches that may not be (12.1), each time anew.
func notWellFormed() []api.Batch {
	all := []api.Batch{
		{Fill: true, View: 1},
		{Fill: true, Tip: api.Tip{View: 1}},
		{Fill: true, Tip: api.Tip{Slot: 1}},
		{Fill: true, Time: 1},
		{Fill: true, Reqs: []api.Req{keep(1)}},
		{Reqs: []api.Req{keep(1), keep(2), keep(1)}},
		{Reqs: []api.Req{keep(1), keep(2), keep(3), keep(4)}},
		{Reqs: []api.Req{{}}},
		{Reqs: []api.Req{keep(0), keep(8)}},
		{Reqs: []api.Req{keep(-1)}},
		{Reqs: []api.Req{{Client: 1, Cmd: api.Cmd{Kind: api.Open}}}},
		{Reqs: []api.Req{{Client: 1, Seq: 1, Cmd: api.Cmd{Kind: api.Open, Session: 1}}}},
		{Reqs: []api.Req{{Client: 1, Seq: 1, Cmd: api.Cmd{Kind: api.Try, Session: 1, Name: "Door"}}}},
	}
	for _, v := range slices.Concat(below, above) {
		all = append(all,
			api.Batch{View: v},
			api.Batch{Tip: api.Tip{View: v}},
			api.Batch{Tip: api.Tip{Slot: v}},
			api.Batch{Time: v},
		)
	}
	return all
}

func vote(slot, ballot int, b api.Batch) api.Vote {
	return api.Vote{Slot: slot, Ballot: ballot, Batch: b}
}

// same reports whether two lists of votes are equal in all fields. It does not
// ask the project's own packages.
func same(a, b []api.Vote) bool {
	return slices.EqualFunc(a, b, func(v, w api.Vote) bool {
		x, y := v.Batch, w.Batch
		return v.Slot == w.Slot && v.Ballot == w.Ballot && x.Fill == y.Fill && x.View == y.View &&
			x.Tip == y.Tip && x.Time == y.Time && slices.Equal(x.Reqs, y.Reqs)
	})
}

// wantTold asks all that an acceptor tells.
func wantTold(t *testing.T, a *accept.Acceptor, ballot, done int, votes ...api.Vote) {
	t.Helper()
	for range 2 { // to ask changes nothing
		if a.Ballot() != ballot || a.Done() != done || !same(a.Votes(), votes) {
			t.Fatalf("the acceptor has Ballot %d, Done %d and the votes %+v; want %d, %d and %+v", a.Ballot(), a.Done(), a.Votes(), ballot, done, votes)
		}
	}
}

func wantPromise(t *testing.T, a *accept.Acceptor, ballot int, want api.Errno) {
	t.Helper()
	if code := a.Promise(ballot); code != want {
		t.Fatalf("Promise(%d) = %d; want %d", ballot, code, want)
	}
}

func wantAccept(t *testing.T, a *accept.Acceptor, ballot, slot int, b api.Batch, want api.Errno) {
	t.Helper()
	if code := a.Accept(ballot, slot, b); code != want {
		t.Fatalf("Accept(%d, %d, %+v) = %d; want %d", ballot, slot, b, code, want)
	}
}

// made returns an acceptor with this Ballot, this Done and these votes.
func made(t *testing.T, ballot, done int, votes ...api.Vote) *accept.Acceptor {
	t.Helper()
	a := accept.New()
	a.Trim(done)
	rising := slices.SortedStableFunc(slices.Values(votes), func(v, w api.Vote) int { return cmp.Compare(v.Ballot, w.Ballot) })
	for _, v := range rising {
		wantAccept(t, a, v.Ballot, v.Slot, v.Batch, api.OK)
	}
	wantPromise(t, a, ballot, api.OK)
	wantTold(t, a, ballot, done, votes...)
	return a
}

// 14.1: New

func TestNew(t *testing.T) {
	wantTold(t, accept.New(), 0, 0)
}

func TestNewOnesAreApart(t *testing.T) {
	a, b := accept.New(), accept.New()
	wantAccept(t, a, 3, 2, given(1), api.OK)
	wantTold(t, b, 0, 0)
	b.Trim(2)
	wantPromise(t, b, 5, api.OK)
	wantTold(t, a, 3, 0, vote(2, 3, given(1)))
	wantTold(t, accept.New(), 0, 0)
}

// 14.1: Promise

func TestPromise(t *testing.T) {
	for _, c := range []struct {
		before, ballot int
		want           api.Errno
		behind         int
	}{
		{0, 0, api.OK, 0},
		{0, 1, api.OK, 1},
		{0, api.High, api.OK, api.High},
		{0, -1, api.ErrArg, 0},
		{0, api.High + 1, api.ErrArg, 0},
		{3, 0, api.ErrOld, 3},
		{3, 2, api.ErrOld, 3},
		{3, 3, api.OK, 3},
		{3, 4, api.OK, 4},
		{3, 300, api.OK, 300},
		{3, -1, api.ErrArg, 3},
		{1 << 40, 1<<40 - 1, api.ErrOld, 1 << 40},
		{1 << 40, 1, api.ErrOld, 1 << 40},
		{1 << 40, 1<<40 + 1, api.OK, 1<<40 + 1},
		{api.High - 1, api.High, api.OK, api.High},
		{api.High, api.High - 1, api.ErrOld, api.High},
		{api.High, 0, api.ErrOld, api.High},
		{api.High, api.High, api.OK, api.High},
		{api.High, api.High + 1, api.ErrArg, api.High},
	} {
		a := made(t, c.before, 0)
		wantPromise(t, a, c.ballot, c.want)
		wantTold(t, a, c.behind, 0)
	}
}

// A promise leaves Done and the votes, also those with other ballots, and
// behind an error all is as it was.
func TestPromiseLeavesVotes(t *testing.T) {
	votes := []api.Vote{vote(5, 2, given(1)), vote(6, 0, fill()), vote(13, 3, given(2))}
	for _, ballot := range []int{3, 4, 9, api.High} {
		a := made(t, 3, 4, votes...)
		wantPromise(t, a, ballot, api.OK)
		wantTold(t, a, ballot, 4, votes...)
	}
	a := made(t, 3, 4, votes...)
	for _, ballot := range slices.Concat(below, above) {
		wantPromise(t, a, ballot, api.ErrArg)
		wantTold(t, a, 3, 4, votes...)
	}
	for _, ballot := range []int{0, 1, 2} {
		wantPromise(t, a, ballot, api.ErrOld)
		wantTold(t, a, 3, 4, votes...)
	}
}

func TestPromisesInARow(t *testing.T) {
	a := accept.New()
	for _, ballot := range []int{1, 1, 7, 256, 257, 1 << 32, api.High - 1, api.High, api.High} {
		wantPromise(t, a, ballot, api.OK)
		wantTold(t, a, ballot, 0)
		wantPromise(t, a, ballot-1, api.ErrOld)
		wantTold(t, a, ballot, 0)
	}
}
