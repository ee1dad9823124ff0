package batch_test

import (
	"math"
	"slices"
	"testing"

	"padlock/api"
	"padlock/batch"
)

func wantSame(t *testing.T, a, b api.Batch, want bool) {
	t.Helper()
	if got := batch.Same(a, b); got != want {
		t.Errorf("Same(%+v, %+v) = %v; want %v", a, b, got, want)
	}
	if got := batch.Same(b, a); got != want {
		t.Errorf("Same(%+v, %+v) = %v; want %v", b, a, got, want)
	}
}

// 12.1: Same

func TestSame(t *testing.T) {
	wantSame(t, api.Batch{Time: 1}, api.Batch{Time: 2}, false)
	for i, b := range append(wellFormed(), notWellFormed()...) {
		wantSame(t, b, b, true)
		wantSame(t, b, copyOf(b), true)
		wantSame(t, b, append(wellFormed(), notWellFormed()...)[i], true)
	}
}

// turns are changes of plain: the batches that they make are well-formed and
// not, and all of them differ.
func turns() []func(b *api.Batch) {
	all := []func(b *api.Batch){func(b *api.Batch) {}, func(b *api.Batch) { b.Fill = true }}
	for _, v := range []int{math.MinInt, -1, 1, 1 << 32, 1 << 62} {
		all = append(all,
			func(b *api.Batch) { b.View += v },
			func(b *api.Batch) { b.Tip.View += v },
			func(b *api.Batch) { b.Tip.Slot += v },
			func(b *api.Batch) { b.Time += v },
		)
		for i := range plain().Reqs {
			all = append(all,
				func(b *api.Batch) { b.Reqs[i].Client += v },
				func(b *api.Batch) { b.Reqs[i].Seq += v },
				func(b *api.Batch) { b.Reqs[i].Cmd.Kind += v },
				func(b *api.Batch) { b.Reqs[i].Cmd.Session += v },
			)
		}
	}
	for i := range plain().Reqs {
		for _, name := range []string{"b", "a-", "a-9\x00", "A-9"} {
			all = append(all, func(b *api.Batch) { b.Reqs[i].Cmd.Name = name })
		}
	}
	return append(all,
		func(b *api.Batch) { b.View, b.Time = b.Time, b.View },
		func(b *api.Batch) { b.Tip = api.Tip{View: b.Tip.Slot, Slot: b.Tip.View} },
		func(b *api.Batch) { b.Reqs = nil },
		func(b *api.Batch) { b.Reqs = b.Reqs[:1] },
		func(b *api.Batch) { b.Reqs = b.Reqs[1:] },
		func(b *api.Batch) { b.Reqs = append(b.Reqs, api.Req{}) },
		func(b *api.Batch) { b.Reqs = append(b.Reqs, keep(2)) },
		func(b *api.Batch) { b.Reqs = append(b.Reqs, b.Reqs...) },
		func(b *api.Batch) { slices.Reverse(b.Reqs) },
		func(b *api.Batch) { *b = api.Batch{} },
		func(b *api.Batch) { *b = api.Batch{Fill: true} },
		func(b *api.Batch) { *b = full() },
	)
}

// Batches that differ from plain in one thing, and so in two from each other.
func TestSameOfOthers(t *testing.T) {
	for i, turn := range turns() {
		a := turned(plain(), turn)
		for j, other := range turns() {
			b := turned(plain(), other)
			if same(a, b) != (i == j) {
				t.Fatalf("turns %d and %d make %+v and %+v", i, j, a, b)
			}
			wantSame(t, a, b, i == j)
		}
	}
}

// Requests that are a prefix of the other's, also where all is zero.
func TestSameOfPrefixes(t *testing.T) {
	for _, reqs := range [][]api.Req{full().Reqs, make([]api.Req, 3)} {
		for i := range 4 {
			for j := range 4 {
				wantSame(t, api.Batch{Reqs: reqs[:i]}, api.Batch{Reqs: reqs[:j]}, i == j)
			}
		}
	}
}

// R3: a nil list and an empty one are the same.
func TestSameOfNilAndEmpty(t *testing.T) {
	wantSame(t, api.Batch{}, api.Batch{Reqs: []api.Req{}}, true)
	wantSame(t, api.Batch{Fill: true}, api.Batch{Fill: true, Reqs: []api.Req{}}, true)
	wantSame(t, api.Batch{Reqs: full().Reqs[:0]}, api.Batch{}, true)
	wantSame(t, api.Batch{Reqs: []api.Req{}}, api.Batch{Reqs: []api.Req{{}}}, false)
}
