package batch_test

import (
	"math"
	"testing"

	"padlock/api"
	"padlock/batch"
)

// on makes a batch of a view behind the one that tip names.
func on(tip api.Tip, view, time int, reqs ...api.Req) api.Batch {
	return api.Batch{View: view, Tip: tip, Time: time, Reqs: reqs}
}

func tip(view, slot int) api.Tip {
	return api.Tip{View: view, Slot: slot}
}

func wantValid(t *testing.T, tip api.Tip, b api.Batch, want bool) {
	t.Helper()
	if got := batch.Valid(tip, b); got != want {
		t.Errorf("Valid(%v, %+v) = %v; want %v", tip, b, got, want)
	}
}

func wantWalk(t *testing.T, start api.Tip, time, slot int, bs []api.Batch, want api.Tip, wantTime int) {
	t.Helper()
	if got, gotTime := batch.Walk(start, time, slot, bs...); got != want || gotTime != wantTime {
		t.Errorf("Walk(%v, %d, %d, %+v) = %v, %d; want %v, %d", start, time, slot, bs, got, gotTime, want, wantTime)
	}
}

// 12.2: Valid

// tips are tips of which some differ in View alone, and some in Slot alone.
func tips() []api.Tip {
	var all []api.Tip
	for _, view := range []int{math.MinInt, -1, 0, 1, 2, 1 << 32, api.High, math.MaxInt} {
		for _, slot := range []int{math.MinInt, -1, 0, 1, 2, 1 << 32, api.High, math.MaxInt} {
			all = append(all, tip(view, slot))
		}
	}
	return all
}

func TestValid(t *testing.T) {
	for _, a := range tips() {
		for _, b := range tips() {
			wantValid(t, a, on(b, 9, 9), a == b)
			wantValid(t, a, on(b, a.View, a.Slot, full().Reqs...), a == b)
		}
	}
	for _, b := range wellFormed() {
		wantValid(t, b.Tip, b, !b.Fill)
		wantValid(t, tip(b.Tip.View+1, b.Tip.Slot), b, false)
		wantValid(t, tip(b.Tip.View, b.Tip.Slot+1), b, false)
	}
}

// A Fill is not valid after any tip, whatever else it has.
func TestValidOfFills(t *testing.T) {
	for _, a := range tips() {
		wantValid(t, a, api.Batch{Fill: true}, false)
		b := on(a, 9, 9, keep(1))
		b.Fill = true
		wantValid(t, a, b, false)
	}
}

// A batch that is not well-formed is valid by its Fill and its Tip, too.
func TestValidOfWhatIsNotWellFormed(t *testing.T) {
	for _, b := range notWellFormed() {
		wantValid(t, b.Tip, b, !b.Fill)
		wantValid(t, tip(b.Tip.View, b.Tip.Slot-1), b, false)
	}
}

// 12.2: Walk

func TestWalk(t *testing.T) {
	wantWalk(t, tip(0, 0), 5, 3, []api.Batch{on(tip(0, 0), 1, 9)}, tip(1, 3), 9)
	wantWalk(t, tip(4, 9), 5, 10, []api.Batch{on(tip(4, 9), 6, 9, full().Reqs...)}, tip(6, 10), 9)
	wantWalk(t, tip(4, 9), 5, 10, []api.Batch{on(tip(4, 8), 6, 9)}, tip(4, 9), 5)
	wantWalk(t, tip(4, 9), 5, 10, []api.Batch{on(tip(3, 9), 6, 9)}, tip(4, 9), 5)
	wantWalk(t, tip(4, 9), 5, 10, []api.Batch{{Fill: true}}, tip(4, 9), 5)
	wantWalk(t, tip(0, 0), 5, 10, []api.Batch{{Fill: true}}, tip(0, 0), 5)
}

func TestWalkOfNoBatches(t *testing.T) {
	for _, a := range tips() {
		for _, v := range append(inRange, offRange...) {
			wantWalk(t, a, v, 3, nil, a, v)
			wantWalk(t, a, v, v, []api.Batch{}, a, v)
		}
	}
}

// row returns batches for the slots from 4 on, behind the tip {1, 3}: valid
// ones, and between them a Fill, one with an older tip, a batch that was valid
// one slot before, and one with a tip that is yet to come.
func row() []api.Batch {
	return []api.Batch{
		{Fill: true},
		on(tip(1, 3), 2, 20, keep(1)),
		{Fill: true},
		on(tip(1, 3), 2, 90),
		on(tip(2, 5), 2, 14, keep(2), keep(3)),
		on(tip(2, 5), 2, 90),
		on(tip(3, 11), 7, 90),
		on(tip(2, 8), 3, 31),
		on(tip(2, 10), 3, 90),
		{Fill: true, Tip: tip(3, 11)},
		on(tip(3, 11), 3, 31),
	}
}

// walked is the tip and the time after each of the row's beginnings, from {1, 3} and 9 on.
func walked() ([]api.Tip, []int) {
	return []api.Tip{tip(1, 3), tip(1, 3), tip(2, 5), tip(2, 5), tip(2, 5), tip(2, 8), tip(2, 8), tip(2, 8), tip(3, 11), tip(3, 11), tip(3, 11), tip(3, 14)},
		[]int{9, 9, 20, 20, 20, 20, 20, 20, 31, 31, 31, 31}
}

func TestWalkOfARow(t *testing.T) {
	tips, times := walked()
	for n := range len(row()) + 1 {
		wantWalk(t, tip(1, 3), 9, 4, row()[:n], tips[n], times[n])
		wantWalk(t, tip(1, 3), 1000, 4, row()[:n], tips[n], 1000)
		wantWalk(t, tip(0, 3), 9, 4, row()[:n], tip(0, 3), 9)
		wantWalk(t, tip(1, 4), 9, 4, row()[:n], tip(1, 4), 9)
		// In other slots, what stands behind the first valid batch is not.
		if n > 1 {
			wantWalk(t, tip(1, 3), 9, 40, row()[:n], tip(2, 41), 20)
		}
	}
}

// A Time that is less than time, equal to it, and greater.
func TestWalkOfTimes(t *testing.T) {
	all := append(append([]int{2, 3, 254}, inRange...), offRange...)
	for _, time := range all {
		for _, first := range all {
			wantWalk(t, tip(0, 0), time, 1, []api.Batch{on(tip(0, 0), 0, first)}, tip(0, 1), max(time, first))
			for _, second := range all {
				bs := []api.Batch{on(tip(0, 0), 0, first), on(tip(0, 1), 0, second)}
				wantWalk(t, tip(0, 0), time, 1, bs, tip(0, 2), max(time, first, second))
			}
		}
	}
}

// A slot that is not from 0 to High counts as 0: those behind it are 1, 2, ..
func TestWalkFromSlots(t *testing.T) {
	for _, slot := range append([]int{2, 3}, inRange...) {
		wantWalk(t, tip(7, 7), 1, slot, []api.Batch{on(tip(7, 7), 8, 2)}, tip(8, slot), 2)
		bs := []api.Batch{{Fill: true}, on(tip(7, 7), 8, 2), on(tip(8, slot+1), 9, 3)}
		wantWalk(t, tip(7, 7), 1, slot, bs, tip(9, slot+2), 3)
	}
	for _, slot := range append([]int{-7, -3}, offRange...) {
		wantWalk(t, tip(7, 7), 1, slot, []api.Batch{on(tip(7, 7), 8, 2)}, tip(8, 0), 2)
		bs := []api.Batch{{Fill: true}, on(tip(7, 7), 8, 2), on(tip(8, 1), 9, 3), {}, on(tip(9, 2), 4, 0)}
		wantWalk(t, tip(7, 7), 1, slot, bs, tip(4, 4), 3)
	}
}

// From a slot up to High, slots that go beyond High are the numbers behind it:
// it is the slot of the first batch alone that counts as 0.
func TestWalkBeyondHigh(t *testing.T) {
	chain := []api.Batch{
		on(tip(0, 0), 1, 10),
		on(tip(1, api.High-1), 2, 20),
		on(tip(2, api.High), 3, 30),
		on(tip(3, api.High+1), 4, 40),
	}
	wantWalk(t, tip(0, 0), 5, api.High-1, chain[:1], tip(1, api.High-1), 10)
	wantWalk(t, tip(0, 0), 5, api.High-1, chain[:2], tip(2, api.High), 20)
	wantWalk(t, tip(0, 0), 5, api.High-1, chain[:3], tip(3, api.High+1), 30)
	wantWalk(t, tip(0, 0), 5, api.High-1, chain, tip(4, api.High+2), 40)
	bs := []api.Batch{{Fill: true}, {Fill: true}, on(tip(6, 5), 6, 7)}
	wantWalk(t, tip(6, 5), 1, api.High-2, bs, tip(6, api.High), 7)
	wantWalk(t, tip(6, 5), 1, api.High-1, bs, tip(6, api.High+1), 7)
	wantWalk(t, tip(6, 5), 1, api.High, bs, tip(6, api.High+2), 7)
	wantWalk(t, tip(6, 5), 1, api.High+1, bs, tip(6, 2), 7)
}

// The batches of a walk are valid by their Fills and their Tips, well-formed or not.
func TestWalkOfWhatIsNotWellFormed(t *testing.T) {
	for _, b := range notWellFormed() {
		if b.Fill {
			wantWalk(t, b.Tip, 5, 3, []api.Batch{b}, b.Tip, 5)
		} else {
			wantWalk(t, b.Tip, 5, 3, []api.Batch{{Fill: true}, b}, tip(b.View, 4), max(5, b.Time))
		}
	}
}
