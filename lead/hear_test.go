package lead_test

import (
	"math/rand"
	"slices"
	"testing"

	"padlock/api"
	"padlock/lead"
	"padlock/plan"
)

// 17.1: Hear, and how it ends

// But in Phase 1 ErrOld is told first, whatever else is wrong.
func TestHearInOtherPhases(t *testing.T) {
	for _, s := range samples(t) {
		if s.want.phase == 1 {
			continue
		}
		var ps []api.Promise
		for _, from := range []int{-1, 0, 1, 2, 3, 4, 5, 6, 7} {
			ps = append(ps, told(from, 3, row(3, 4, 90)...))
			ps = append(ps, faulty(from)...)
		}
		for _, p := range ps {
			wantHear(t, s.l, p, false, api.ErrOld)
		}
		wantLead(t, s.l, s.want)
	}
}

// Each fault, by replicas that were heard already too, and by such as there are not.
func TestHearOfWhatIsNotWellFormed(t *testing.T) {
	for n := 1; n <= 7; n++ {
		for count := range quorum[n] {
			l, want := lead.New(n), state{phase: 1, view: 9}
			wantBegin(t, l, 9, api.OK)
			for from := range count {
				wantHear(t, l, told(from, 0), false, api.OK)
				want.heard = append(want.heard, from)
			}
			for from := -1; from <= 8; from++ {
				for _, p := range faulty(from) {
					wantHear(t, l, p, false, api.ErrArg)
				}
			}
			wantLead(t, l, want)
		}
	}
}

func TestHearOfNoReplica(t *testing.T) {
	for n := 1; n <= 7; n++ {
		l := asking(t, n, 9)
		for _, from := range slices.Concat(below, []int{n, n + 1, 6, 7, 8, 256, 1 << 32, api.High - 1, api.High}, above) {
			if from < 0 || from >= n {
				wantHear(t, l, api.Promise{From: from}, false, api.ErrArg)
				wantHear(t, l, told(from, 3, row(3, 9, 2)...), false, api.ErrArg)
			}
		}
		wantLead(t, l, state{phase: 1, view: 9})
		for from := range quorum[n] {
			wantHear(t, l, told(n-1-from, 0), from+1 == quorum[n], api.OK)
		}
	}
}

// A second promise of a replica, like the first one or not, has no effect.
func TestHearTwice(t *testing.T) {
	for n := 3; n <= 7; n++ {
		for from := range n {
			first := told(from, 4, vote(6, 2, given(1)))
			l := asking(t, n, 9, first)
			for _, p := range []api.Promise{first, told(from, 4), told(from, 8), told(from, 4, vote(6, 3, given(2)), vote(7, 1, given(3)))} {
				wantHear(t, l, p, false, api.ErrTwice)
				wantLead(t, l, state{phase: 1, view: 9, heard: []int{from}})
			}
			heard := []int{from}
			for i := 1; i < quorum[n]; i++ {
				other := (from + i) % n
				wantHear(t, l, first, false, api.ErrTwice)
				wantHear(t, l, told(other, 0), i+1 == quorum[n], api.OK)
				heard = append(heard, other)
			}
			slices.Sort(heard)
			wantLead(t, l, state{phase: 2, view: 9, heard: heard, next: 7, tip: first.Tip, time: first.Time, slots: []api.Vote{
				vote(5, 9, fill()), vote(6, 9, given(1)),
			}})
		}
	}
}

// What ends with an error doesn't count for the quorum.
func TestHearOfErrorsDoesNotCount(t *testing.T) {
	l := asking(t, 7, 9, told(5, 0), told(3, 0), told(4, 0))
	for _, p := range slices.Concat(faulty(5), faulty(6)) {
		wantHear(t, l, p, false, api.ErrArg)
		wantHear(t, l, told(5, 7), false, api.ErrTwice)
		wantHear(t, l, told(7, 7), false, api.ErrArg)
	}
	wantLead(t, l, state{phase: 1, view: 9, heard: []int{3, 4, 5}})
	wantHear(t, l, told(6, 0), true, api.OK)
	wantLead(t, l, state{phase: 2, view: 9, heard: []int{3, 4, 5, 6}, next: 1, tip: tip(4, 0), time: 33})
}

// 17.1: when it leads, and 17.3: Heard

// inAllOrders calls do with each order of count of the numbers below n, in a
// list of its own.
func inAllOrders(n, count int, do func(chosen []int)) {
	var try func(chosen []int)
	try = func(chosen []int) {
		if len(chosen) == count {
			do(slices.Clone(chosen))
			return
		}
		for v := range n {
			if !slices.Contains(chosen, v) {
				try(append(chosen[:len(chosen):len(chosen)], v))
			}
		}
	}
	try(nil)
}

// All quorums of all numbers of replicas, in each order: the last promise makes
// it lead, and none before it.
func TestQuorums(t *testing.T) {
	for n := 1; n <= 7; n++ {
		inAllOrders(n, quorum[n], func(chosen []int) {
			l := asking(t, n, 9)
			for i, from := range chosen {
				heard := slices.Sorted(slices.Values(chosen[:i+1]))
				want := state{phase: 1, view: 9, heard: heard}
				if i+1 == quorum[n] {
					want = state{phase: 2, view: 9, heard: heard, next: 6, tip: tip(heard[0]+1, 5), time: 10*heard[0] + 3}
				}
				wantHear(t, l, told(from, 5), want.phase == 2, api.OK)
				wantLead(t, l, want)
			}
		})
	}
}

// 17.1: the plan

// wantTakenOver asks for want of a Lead of n replicas in view 9 that hears the
// promises, which are a quorum, in each order.
func wantTakenOver(t *testing.T, n int, ps []api.Promise, want state) {
	t.Helper()
	want.phase, want.view, want.heard = 2, 9, nil
	for _, p := range ps {
		want.heard = append(want.heard, p.From)
	}
	slices.Sort(want.heard)
	inAllOrders(len(ps), len(ps), func(chosen []int) {
		var order []api.Promise
		for _, at := range chosen {
			order = append(order, ps[at])
		}
		wantLead(t, leading(t, n, 9, order...), want)
	})
}

func TestPlanWithoutBatches(t *testing.T) {
	for _, done := range edges {
		for _, time := range edges {
			p := api.Promise{From: 0, Done: done, Tip: tip(time, done), Time: time}
			wantTakenOver(t, 2, []api.Promise{p, {From: 1}}, state{next: done + 1, tip: p.Tip, time: time})
		}
	}
	wantTakenOver(t, 3, []api.Promise{told(0, 2, row(2, 4, 3)...), told(2, 6)}, state{next: 7, tip: tip(3, 6), time: 23})
}

func TestPlanWithHoles(t *testing.T) {
	wantTakenOver(t, 5, old(), leader())
	a := told(0, 3, vote(6, 4, given(1)), vote(11, 0, given(2)))
	b := told(1, 4, vote(6, 5, given(3)), vote(7, 1, fill()), vote(8, 1, given(4)))
	c := told(3, 3, vote(4, 9, given(5)), vote(8, 2, given(6)))
	wantTakenOver(t, 5, []api.Promise{a, b, c}, state{next: 12, tip: tip(2, 4), time: 13, slots: []api.Vote{
		vote(5, 9, fill()), vote(6, 9, given(3)), vote(7, 9, fill()), vote(8, 9, given(6)), vote(9, 9, fill()), vote(10, 9, fill()), vote(11, 9, given(2)),
	}})
}

// All sets of the nine slots behind Done, up to Done + MaxLog.
func TestPlanOfAllSetsOfSlots(t *testing.T) {
	for _, done := range []int{0, 5, api.High - 9} {
		for set := range 1 << 9 {
			p, want := told(1, done), state{next: done + 1, tip: tip(2, done), time: 13}
			for i := range 9 {
				slot := done + 1 + i
				switch {
				case set>>i&1 == 1:
					p.Votes = append(p.Votes, vote(slot, i, given(i)))
					want.slots = append(want.slots, vote(slot, 9, given(i)))
				case set>>i > 0:
					want.slots = append(want.slots, vote(slot, 9, fill()))
				}
			}
			want.next += len(want.slots)
			wantTakenOver(t, 3, []api.Promise{p, told(2, 0)}, want)
		}
	}
}

func TestPlanNearHigh(t *testing.T) {
	at := tip(7, api.High)
	wantTakenOver(t, 1, []api.Promise{{Done: api.High, Tip: at, Time: 4}}, state{next: api.High + 1, tip: at, time: 4})
	for done := api.High - 9; done < api.High; done++ {
		b := behind(tip(7, 2), api.High, api.High, full()...)
		p := api.Promise{From: 1, Done: done, Tip: tip(7, 2), Time: 4, Votes: []api.Vote{vote(api.High, 3, b)}}
		want := state{next: api.High + 1, tip: tip(api.High, api.High), time: api.High}
		for slot := done + 1; slot < api.High; slot++ {
			want.slots = append(want.slots, vote(slot, 9, fill()))
		}
		want.slots = append(want.slots, vote(api.High, 9, b))
		wantTakenOver(t, 3, []api.Promise{p, told(0, done)}, state{next: want.next, tip: tip(1, done), time: 3, slots: want.slots})
		wantTakenOver(t, 3, []api.Promise{p, told(2, done)}, want)
		wantTakenOver(t, 3, []api.Promise{p, {From: 2, Done: api.High, Tip: at, Time: 4}}, state{next: api.High + 1, tip: at, time: 4})
	}
}

// Last is the plan's End and its Last, behind what is valid of its batches, not
// its Tip and Time.
func TestPlanWithChains(t *testing.T) {
	p := api.Promise{From: 0, Done: 6, Tip: tip(4, 5), Time: 30, Votes: []api.Vote{
		vote(7, 5, behind(tip(4, 5), 5, 33, keep(1))),
		vote(8, 5, behind(tip(4, 5), 5, 99)), // not valid
		vote(9, 6, behind(tip(5, 7), 3, 20)),
		vote(12, 2, behind(tip(5, 9), 3, 90)), // not valid
	}}
	want := state{next: 13, tip: tip(3, 9), time: 33, slots: []api.Vote{
		vote(7, 9, p.Votes[0].Batch), vote(8, 9, p.Votes[1].Batch), vote(9, 9, p.Votes[2].Batch),
		vote(10, 9, fill()), vote(11, 9, fill()), vote(12, 9, p.Votes[3].Batch),
	}}
	wantTakenOver(t, 1, []api.Promise{p}, want)
	wantTakenOver(t, 3, []api.Promise{p, told(2, 5)}, want)
}

// anyPromise returns a promise that may be, with a Done near to this one.
func anyPromise(r *rand.Rand, from, done int) api.Promise {
	p := told(from, max(0, min(api.High, done+r.Intn(6)-3)))
	p.Time = r.Intn(50)
	p.Tip = tip(r.Intn(3), p.Done)
	end := p.Tip
	for slot := p.Done + 1; slot <= min(p.Done+1+r.Intn(9), api.High); slot++ {
		b := given(r.Intn(9))
		switch r.Intn(5) {
		case 0:
			continue
		case 1:
			b = fill()
		case 2, 3:
			b = behind(end, r.Intn(4), r.Intn(60), keeps(r.Intn(4))...)
			end = tip(b.View, slot)
		}
		p.Votes = append(p.Votes, vote(slot, r.Intn(5), b))
	}
	return p
}

// Any promises: what is taken over is what plan.Make makes of these, and so are
// the slots where Add goes on.
func TestPlanOfAnyPromises(t *testing.T) {
	for seed := range int64(1500) {
		r := rand.New(rand.NewSource(seed))
		n, view, at := 1+r.Intn(7), r.Intn(9), []int{0, 20, api.High - 3}[r.Intn(3)]
		var ps []api.Promise
		for _, from := range r.Perm(n)[:quorum[n]] {
			ps = append(ps, anyPromise(r, from, at))
		}
		l := leading(t, n, view, ps...)
		x, code := plan.Make(ps...)
		if code != api.OK {
			t.Fatalf("Make(%+v) ends with code %d", ps, code)
		}
		want := state{phase: 2, view: view, next: x.Done + 1, tip: x.End, time: x.Last}
		for _, p := range ps {
			want.heard = append(want.heard, p.From)
		}
		slices.Sort(want.heard)
		for _, b := range x.Batches {
			want.slots = append(want.slots, vote(want.next, view, b))
			want.next++
		}
		wantLead(t, l, want)
		if want.next <= api.High {
			wantAdd(t, l, want.next-1, 33, keeps(1), want.next, api.OK)
			wantLead(t, l, want.added(33, keeps(1)...))
		}
	}
}
