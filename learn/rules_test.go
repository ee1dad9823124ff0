package learn_test

import (
	"slices"
	"testing"

	"padlock/api"
	"padlock/learn"
)

// R1: calls with any numbers end without a panic, and tell the same of two
// learners to which the same happened; what happens to others has no effect.
func TestAnything(t *testing.T) {
	numbers := slices.Concat(below, []int{0, 1, 2, 3, 8, 9, 10, 1 << 32, api.High - 9, api.High - 1, api.High}, above)
	for _, x := range numbers {
		for _, y := range numbers {
			for _, z := range numbers {
				wantTwins(t, x, y, z)
			}
		}
	}
}

func wantTwins(t *testing.T, x, y, z int) {
	t.Helper()
	a, b, other := learn.New(3), learn.New(3), learn.New(3)
	for _, n := range []int{x, y, z} {
		other.Trim(n)
		other.Hear(1, z, n, given(2))
		wantHear(t, b, x, n, z, given(1), a.Hear(x, n, z, given(1)))
		wantHear(t, b, 1, n, z, given(3), a.Hear(1, n, z, given(3)))
		a.Trim(y)
		b.Trim(y)
		wantHear(t, b, 2, z, n, given(1), a.Hear(2, z, n, given(1)))
		if a.Done() != b.Done() {
			t.Fatalf("%d, %d and %d lead to %d and %d", x, y, z, a.Done(), b.Done())
		}
		for _, slot := range []int{x, y, z} {
			wantSameOf(t, a, b, slot)
		}
	}
}

// wantSameOf asks both for a slot.
func wantSameOf(t *testing.T, a, b *learn.Learner, slot int) {
	t.Helper()
	ballot, who := a.Heard(slot)
	if ballotB, whoB := b.Heard(slot); ballotB != ballot || !slices.Equal(whoB, who) {
		t.Fatalf("Heard(%d) = %d, %v; another one tells %d, %v", slot, ballot, who, ballotB, whoB)
	}
	x, ok := a.Chosen(slot)
	if y, okB := b.Chosen(slot); okB != ok || !same(x, y) {
		t.Fatalf("Chosen(%d) = %+v, %v; another one tells %+v, %v", slot, x, ok, y, okB)
	}
}

// R1: lists that are long make no call panic.
func TestLongLists(t *testing.T) {
	const n = 1 << 16
	v := heard(1, 3, given(1), 2)
	l := made(t, 3, 0, v)
	for _, b := range []api.Batch{{Reqs: make([]api.Req, n)}, {Fill: true, Reqs: make([]api.Req, n)}, {Reqs: slices.Repeat(full().Reqs, n)}} {
		if code := l.Hear(0, 3, 1, b); code != api.ErrArg {
			t.Errorf("a batch with %d requests is heard with code %d", len(b.Reqs), code)
		}
		wantTold(t, l, 3, 0, v)
	}
}

// R1: of many votes for few slots, no more is told than of the last ones.
func TestManyVotes(t *testing.T) {
	l := learn.New(3)
	for i := range 1 << 16 {
		wantHear(t, l, i%3, i, 1+i%9, given(i), api.OK)
	}
	var vs []votes
	for i := 1<<16 - 9; i < 1<<16; i++ {
		vs = append(vs, heard(1+i%9, i, given(i), i%3))
	}
	wantTold(t, l, 3, 0, vs...)
}

// R1: where New made no learner there are no replicas, and nothing is chosen.
func TestNotOfNew(t *testing.T) {
	l := new(learn.Learner)
	for from := -1; from <= 7; from++ {
		wantHear(t, l, from, 0, 1, fill(), api.ErrArg)
	}
	wantTold(t, l, 0, 0)
	l.Trim(3)
	wantTold(t, l, 0, 3)
}

// R3: beside an error and beside false there is nothing else, also where a
// batch was heard but is not chosen.
func TestNothingBesideFalse(t *testing.T) {
	for _, b := range wellFormed() {
		l := made(t, 5, 0, heard(3, 8, b, 1, 4))
		for slot := -2; slot <= 20; slot++ {
			if got, ok := l.Chosen(slot); ok || !same(got, api.Batch{}) {
				t.Errorf("Chosen(%d) = %+v, %v", slot, got, ok)
			}
			if ballot, who := l.Heard(slot); slot != 3 && (ballot != 0 || len(who) != 0) {
				t.Errorf("Heard(%d) = %d, %v", slot, ballot, who)
			}
		}
	}
}

// R4

// roomy returns b in memory of its own, where its list goes on behind its end.
func roomy(b api.Batch) api.Batch {
	b.Reqs = append(slices.Clone(b.Reqs), keep(1), keep(9), api.Req{})[:len(b.Reqs)]
	return b
}

// scrawl writes into all of a list, and into its spare capacity.
func scrawl[T any](l []T, v T) {
	all := l[:cap(l)]
	for i := range all {
		all[i] = v
	}
}

// No call changes the batch that it is handed, nor what lies behind the end of
// its list, however it ends.
func TestBatchesStay(t *testing.T) {
	for _, b := range append(wellFormed(), notWellFormed()...) {
		mine := roomy(b)
		before := slices.Clone(mine.Reqs[:cap(mine.Reqs)])
		l := made(t, 3, 4, heard(6, 3, given(1), 0, 1), heard(7, 3, given(1), 2))
		for _, from := range []int{-1, 0, 1, 2, 3} {
			for _, slot := range []int{0, 4, 5, 6, 7, 13, 14} {
				for ballot := 2; ballot <= 4; ballot++ {
					l.Hear(from, ballot, slot, mine)
					l.Chosen(slot)
					l.Heard(slot)
				}
			}
		}
		l.Trim(9)
		if after := mine.Reqs[:cap(mine.Reqs)]; !slices.Equal(after, before) {
			t.Errorf("calls turned the requests %+v into %+v", before, after)
		}
	}
}

// Whoever writes into the requests that were handed in changes nothing of what
// is chosen, then or later, in none of the slots and learners that the batch was
// handed to.
func TestBatchesAreNotKept(t *testing.T) {
	for _, b := range wellFormed() {
		mine := roomy(b)
		one, other := learn.New(3), learn.New(1)
		wantHear(t, one, 0, 3, 2, mine, api.OK)
		wantHear(t, one, 0, 3, 9, mine, api.OK)
		wantHear(t, one, 2, 3, 9, mine, api.OK)
		wantHear(t, other, 0, 4, 1, mine, api.OK)
		scrawl(mine.Reqs, keep(-7))
		wantHear(t, one, 1, 3, 2, given(6), api.OK)
		wantTold(t, one, 3, 0, heard(2, 3, b, 0, 1), heard(9, 3, b, 0, 2))
		wantTold(t, other, 1, 0, heard(1, 4, b, 0))
	}
}

// What Chosen tells is new memory, all spare capacity too: whoever writes into
// it changes neither the learner nor what was told before.
func TestChosenIsNewMemory(t *testing.T) {
	for _, b := range wellFormed() {
		vs := []votes{heard(1, 3, b, 0, 1), heard(2, 3, b, 1, 2), heard(9, 1, full(), 2)}
		l := made(t, 3, 0, vs...)
		first, _ := l.Chosen(1)
		second, _ := l.Chosen(1)
		next, _ := l.Chosen(2)
		scrawl(first.Reqs, keep(-7))
		if !same(second, b) || !same(next, b) {
			t.Errorf("writing into one result turned others into %+v and %+v", second, next)
		}
		scrawl(second.Reqs[len(second.Reqs):], keep(-7))
		if !same(second, b) {
			t.Errorf("writing behind the end of a result turned it into %+v", second)
		}
		wantTold(t, l, 3, 0, vs...)
		scrawl(second.Reqs, keep(-7))
		scrawl(next.Reqs, keep(-7))
		wantHear(t, l, 0, 1, 9, given(1), api.OK)
		wantTold(t, l, 3, 0, vs[0], vs[1], heard(9, 1, full(), 0, 2))
	}
}

// So is the list of who voted.
func TestHeardIsNewMemory(t *testing.T) {
	for n := 1; n <= 7; n++ {
		var who []int
		for from := range needed[n] {
			who = append(who, from)
		}
		vs := []votes{heard(3, 5, given(1), who...), heard(4, 5, given(2), 0)}
		l := made(t, n, 0, vs...)
		_, first := l.Heard(3)
		_, second := l.Heard(3)
		_, next := l.Heard(4)
		scrawl(first, -7)
		if !slices.Equal(second, who) || !slices.Equal(next, []int{0}) {
			t.Errorf("writing into one result turned others into %v and %v", second, next)
		}
		scrawl(second[len(second):], -7)
		if !slices.Equal(second, who) {
			t.Errorf("writing behind the end of a result turned it into %v", second)
		}
		wantTold(t, l, n, 0, vs...)
		scrawl(second, -7)
		scrawl(next, -7)
		wantTold(t, l, n, 0, vs...)
		if n > 3 {
			wantHear(t, l, n-1, 5, 4, given(2), api.OK)
			wantTold(t, l, n, 0, vs[0], heard(4, 5, given(2), 0, n-1))
		}
	}
}

// What was told stays as it is, whatever happens to the learner.
func TestResultsStay(t *testing.T) {
	l := made(t, 5, 4, some()...)
	b, _ := l.Chosen(11)
	_, who := l.Heard(5)
	for slot := 5; slot <= 13; slot++ {
		for from := range 3 {
			l.Hear(from, 10, slot, given(slot))
		}
	}
	l.Trim(13)
	wantHear(t, l, 3, 11, 14, given(1), api.OK)
	wantHear(t, l, 3, 11, 20, given(1), api.OK)
	if !same(b, full()) || !slices.Equal(who, []int{0, 4}) {
		t.Errorf("what was told became %+v and %v", b, who)
	}
}

// R6

func TestNil(t *testing.T) {
	var none *learn.Learner
	for _, n := range slices.Concat(below, []int{0, 1, 9, 10, api.High}, above) {
		none.Trim(n)
		for _, b := range []api.Batch{fill(), given(1), notWellFormed()[0], {Reqs: make([]api.Req, 9)}} {
			wantHear(t, none, n, 1, 1, b, api.ErrNone)
			wantHear(t, none, 1, n, 1, b, api.ErrNone)
			wantHear(t, none, 1, 1, n, b, api.ErrNone)
		}
		wantTold(t, none, 3, 0)
	}
	wantTold(t, learn.New(0), 0, 0)
	wantHear(t, learn.New(8), 0, 0, 1, fill(), api.ErrNone)
}
