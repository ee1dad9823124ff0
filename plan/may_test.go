package plan_test

import (
	"math/rand"
	"slices"
	"testing"

	"padlock/api"
	"padlock/plan"
)

// 16.1: May

func wantMay(t *testing.T, p api.Promise, want bool) {
	t.Helper()
	if got := plan.May(p); got != want {
		t.Errorf("May(%+v) = %v; want %v", p, got, want)
	}
}

func TestMayOfFroms(t *testing.T) {
	for from := range 7 {
		wantMay(t, api.Promise{From: from}, true)
		wantMay(t, told(from, 3, row(3, 9)...), true)
	}
	for _, from := range append(off(), 7, 8, 14, 256, 1<<32, api.High-1, api.High) {
		wantMay(t, api.Promise{From: from}, false)
		p := told(0, 3, row(3, 9)...)
		p.From = from
		wantMay(t, p, false)
	}
}

// Each of Done, the View and the Slot of Tip, and Time, at its edges.
func TestMayOfNumbers(t *testing.T) {
	for _, done := range edges {
		for _, view := range edges {
			for _, slot := range edges {
				for _, time := range edges {
					wantMay(t, api.Promise{Done: done, Tip: tip(view, slot), Time: time}, true)
				}
			}
		}
	}
}

// Each of them out of range, where the others are at their edges.
func TestMayOfNumbersThatMayNotBe(t *testing.T) {
	for _, v := range off() {
		for _, ok := range edges {
			wantMay(t, api.Promise{Done: v, Tip: tip(ok, ok), Time: ok}, false)
			wantMay(t, api.Promise{Done: ok, Tip: tip(v, ok), Time: ok}, false)
			wantMay(t, api.Promise{Done: ok, Tip: tip(ok, v), Time: ok}, false)
			wantMay(t, api.Promise{Done: ok, Tip: tip(ok, ok), Time: v}, false)
		}
		wantMay(t, api.Promise{From: v, Done: v, Tip: tip(v, v), Time: v}, false)
	}
}

// Numbers of a promise with votes: these don't make up for a fault.
func TestMayOfNumbersBesideVotes(t *testing.T) {
	p := told(2, 5, row(5, 9)...)
	wantMay(t, p, true)
	for _, v := range off() {
		for _, field := range []*int{&p.From, &p.Done, &p.Tip.View, &p.Tip.Slot, &p.Time} {
			before := *field
			*field = v
			wantMay(t, p, false)
			*field = before
		}
	}
	wantMay(t, p, true)
}

// There may be no votes, and one for each of the nine slots behind Done, of which
// any may be missing.
func TestMayOfAllSetsOfSlots(t *testing.T) {
	for _, done := range []int{0, 1, 3, 1 << 40, api.High - 10, api.High - 9} {
		wantMay(t, api.Promise{Done: done}, true)
		wantMay(t, api.Promise{Done: done, Votes: []api.Vote{}}, true)
		for set := range 1 << 9 {
			var votes []api.Vote
			for i := range 9 {
				if set>>i&1 == 1 {
					votes = append(votes, vote(done+1+i, i, given(i)))
				}
			}
			wantMay(t, told(1, done, votes...), true)
		}
	}
}

// Ten votes are too many, wherever the one too many is: as there are nine slots
// for them, it has a slot that it may not have either.
func TestMayOfTooManyVotes(t *testing.T) {
	for _, done := range []int{0, 1, 3, 1 << 40, api.High - 10, api.High - 9} {
		wantMay(t, told(1, done, row(done, 9)...), true)
		for at := range 10 {
			for slot := done; slot <= done+10; slot++ {
				wantMay(t, told(1, done, slices.Insert(row(done, 9), at, vote(slot, 3, fill()))...), false)
			}
		}
	}
}

// One vote, in each slot around Done, and in those that are far off.
func TestMayOfSlots(t *testing.T) {
	for _, done := range append([]int{3, 5, 7, 100}, edges...) {
		slots := slices.Concat(off(), edges)
		for past := -12; past <= 12; past++ {
			slots = append(slots, done+past)
		}
		for _, slot := range slots {
			fits := slot > done && slot <= api.High && slot-done <= 9
			wantMay(t, told(1, done, vote(slot, 1, given(1))), fits)
		}
	}
}

// Two and three votes, in each order of slots around Done.
func TestMayOfOrders(t *testing.T) {
	for _, done := range []int{0, 3, api.High - 12, api.High - 5} {
		fits := func(slots ...int) bool {
			before := done
			for _, slot := range slots {
				if slot <= before || slot > done+9 || slot > 1<<61 {
					return false
				}
				before = slot
			}
			return true
		}
		for a := done - 1; a <= done+11; a++ {
			for b := done - 1; b <= done+11; b++ {
				wantMay(t, told(1, done, vote(a, 2, given(1)), vote(b, 1, given(2))), fits(a, b))
				for c := done - 1; c <= done+11; c++ {
					p := told(1, done, vote(a, 2, given(1)), vote(b, 1, given(2)), vote(c, 1, given(2)))
					wantMay(t, p, fits(a, b, c))
				}
			}
		}
	}
}

// Slots end at High, however many would follow Done.
func TestMayNearHigh(t *testing.T) {
	for done := api.High - 12; done <= api.High; done++ {
		for count := range 11 {
			wantMay(t, told(1, done, row(done, count)...), count <= 9 && done+count <= api.High)
		}
	}
	wantMay(t, told(1, api.High, vote(api.High, 0, fill())), false)
	wantMay(t, told(1, api.High, vote(api.High+1, 0, fill())), false)
	wantMay(t, told(1, api.High-1, vote(api.High, api.High, full())), true)
	wantMay(t, told(1, api.High+1, vote(api.High+2, 0, fill())), false)
}

// A fault makes one of the votes one that may not be.
type fault func(v *api.Vote)

// faults are all that can be wrong with a vote by itself.
func faults() []fault {
	var all []fault
	for _, n := range off() {
		all = append(all, func(v *api.Vote) { v.Ballot = n }, func(v *api.Vote) { v.Slot = n })
	}
	for _, b := range notWellFormed() {
		all = append(all, func(v *api.Vote) { v.Batch = b })
	}
	return append(all, func(v *api.Vote) { v.Slot = 0 })
}

// Each fault in each of the votes: the first, the last, and those between.
func TestMayOfFaultyVotes(t *testing.T) {
	for _, done := range []int{0, 4} {
		for count := 1; count <= 9; count++ {
			for at := range count {
				for _, spoil := range faults() {
					votes := row(done, count)
					wantMay(t, told(1, done, votes...), true)
					spoil(&votes[at])
					wantMay(t, told(1, done, votes...), false)
				}
			}
		}
	}
}

// Ballots are in no order, and not held against the Tip or the batch.
func TestMayOfBallots(t *testing.T) {
	for _, a := range edges {
		for _, b := range edges {
			for _, c := range edges {
				p := api.Promise{Done: 3, Votes: []api.Vote{vote(4, a, given(5)), vote(8, b, full()), vote(12, c, fill())}}
				wantMay(t, p, true)
				p.Tip = tip(c, a)
				wantMay(t, p, true)
			}
		}
	}
}

func TestMayOfBatches(t *testing.T) {
	for at := range 9 {
		for _, b := range wellFormed() {
			votes := row(3, 9)
			votes[at].Batch = b
			wantMay(t, told(6, 3, votes...), true)
		}
	}
}

// Neither the Tip nor Time is held against Done or against the votes.
func TestMayOfWhatNeedNotFit(t *testing.T) {
	wantMay(t, api.Promise{Done: 3, Tip: tip(9, 700), Time: 5, Votes: row(3, 9)}, true)
	wantMay(t, api.Promise{Tip: tip(api.High, api.High), Time: api.High, Votes: []api.Vote{vote(9, 0, api.Batch{})}}, true)
	wantMay(t, api.Promise{From: 6, Done: api.High, Tip: tip(0, 0)}, true)
}

// Promises with any numbers, held against the words of 16.1.
func TestMayOfAnything(t *testing.T) {
	r := rand.New(rand.NewSource(1))
	or := func(near int) int {
		switch r.Intn(40) {
		case 0:
			return off()[r.Intn(len(off()))]
		case 1:
			return edges[r.Intn(len(edges))]
		}
		return near
	}
	fits := map[bool]int{}
	for range 50000 {
		p := api.Promise{From: or(r.Intn(7)), Done: or(r.Intn(9)), Tip: tip(or(1), or(2)), Time: or(3)}
		right := p.From >= 0 && p.From <= 6 && numbers(p.Done, p.Tip.View, p.Tip.Slot, p.Time)
		before := p.Done
		for range r.Intn(5) {
			v := vote(or(before+1+r.Intn(3)), or(4), given(r.Intn(5)))
			if r.Intn(30) == 0 {
				v.Batch = notWellFormed()[r.Intn(len(notWellFormed()))]
				right = false
			}
			past := v.Slot - p.Done
			right = right && numbers(v.Slot, v.Ballot) && v.Slot > before && past > 0 && past <= 9
			before = v.Slot
			p.Votes = append(p.Votes, v)
		}
		wantMay(t, p, right)
		fits[right]++
	}
	if fits[true] < 10000 || fits[false] < 10000 {
		t.Errorf("so many promises were well-formed, or not: %v", fits)
	}
}

func numbers(all ...int) bool {
	return slices.Min(all) >= 0 && slices.Max(all) <= 1<<61
}
