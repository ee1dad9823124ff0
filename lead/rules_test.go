package lead_test

import (
	"slices"
	"testing"

	"padlock/api"
	"padlock/lead"
)

// R1: calls with any numbers end without a panic, and tell the same of two Leads
// to which the same happened; what happens to others has no effect.
func TestAnything(t *testing.T) {
	numbers := slices.Concat(below, edges, above)
	for _, x := range numbers {
		for _, y := range numbers {
			for _, z := range numbers {
				wantTwins(t, x, y, z)
			}
		}
	}
}

func wantTwins(t *testing.T, x, y, z int) {
	t.Helper()
	a, b, other := lead.New(1), lead.New(1), lead.New(1)
	for _, n := range []int{x, y, z} {
		wantBegin(t, b, n, a.Begin(n))
		p := api.Promise{From: x, Done: n, Time: y, Votes: []api.Vote{vote(z, n, given(1))}}
		for _, p := range []api.Promise{p, {From: y, Done: n, Tip: tip(z, x)}, {Done: n}, {}} {
			leads, code := a.Hear(p)
			other.Begin(7)
			other.Hear(api.Promise{Done: 5})
			wantHear(t, b, p, leads, code)
		}
		for _, time := range []int{z, 3, n} {
			slot, code := a.Add(y, time, keep(1))
			other.Add(5, 8, keep(2))
			wantAdd(t, b, y, time, []api.Req{keep(1)}, slot, code)
		}
		a.Trim(x)
		b.Trim(x)
		wantSlots(t, b, y, a.Slots(y))
		wantSlots(t, b, z, a.Slots(z))
		tip, time := a.Last()
		wantLast(t, b, tip, time)
		if a.Phase() != b.Phase() || a.View() != b.View() || a.Next() != b.Next() || !slices.Equal(a.Heard(), b.Heard()) {
			t.Fatalf("%d, %d and %d lead to Phase %d and %d, Next %d and %d", x, y, z, a.Phase(), b.Phase(), a.Next(), b.Next())
		}
	}
}

// R1: lists that are long make no call panic.
func TestLongLists(t *testing.T) {
	const n = 1 << 16
	l := asking(t, 3, 9, told(2, 0))
	for _, p := range []api.Promise{
		{Votes: make([]api.Vote, n)},
		{Votes: row(0, n, 1)},
		{Votes: []api.Vote{vote(1, 1, api.Batch{Reqs: make([]api.Req, n)})}},
		{Votes: []api.Vote{vote(1, 1, api.Batch{Reqs: slices.Repeat(full(), n)})}},
	} {
		wantHear(t, l, p, false, api.ErrArg)
	}
	wantLead(t, l, state{phase: 1, view: 9, heard: []int{2}})
	l, want := alone(t, 9, 0)
	for _, rs := range [][]api.Req{make([]api.Req, n), slices.Repeat(full(), n)} {
		if slot, code := l.Add(0, 0, rs...); slot != 0 || code != api.ErrArg {
			t.Errorf("Add of %d requests = %d, %d", len(rs), slot, code)
		}
	}
	wantLead(t, l, want)
}

// R1: many slots, of which none but those behind done are kept.
func TestManySlots(t *testing.T) {
	const n = 1 << 16
	l, want := alone(t, 9, 0)
	for i := range n {
		wantAdd(t, l, api.High, i, keeps(i%4), i+1, api.OK)
	}
	for done := range n - 3 {
		l.Trim(done)
		if got := l.Slots(done); len(got) != 3 || got[0].Slot != done+1 || got[2].Batch.Time != done+2 {
			t.Fatalf("Slots(%d) = %+v", done, got)
		}
	}
	l.Trim(n)
	want.next, want.tip, want.time = n+1, tip(9, n), n-1
	wantLead(t, l, want)
}

// R1: where New made no Lead there are no replicas, and it never leads.
func TestNotOfNew(t *testing.T) {
	l := new(lead.Lead)
	wantLead(t, l, state{})
	wantBegin(t, l, 4, api.OK)
	for from := -1; from <= 7; from++ {
		wantHear(t, l, api.Promise{From: from}, false, api.ErrArg)
	}
	wantAdd(t, l, 0, 0, nil, 0, api.ErrOld)
	l.Trim(9)
	wantLead(t, l, state{phase: 1, view: 4})
	l.Stop()
	wantLead(t, l, state{view: 4})
}

// R3: an empty list and a nil one are the same.
func TestEmptyLists(t *testing.T) {
	p := told(0, 2, vote(3, 1, api.Batch{Reqs: []api.Req{}}), vote(4, 1, api.Batch{Fill: true, Reqs: []api.Req{}}))
	l := leading(t, 3, 9, told(2, 2, []api.Vote{}...), p)
	want := state{phase: 2, view: 9, heard: []int{0, 2}, next: 5, tip: tip(1, 2), time: 3, slots: []api.Vote{vote(3, 9, api.Batch{}), vote(4, 9, fill())}}
	wantLead(t, l, want)
	wantAdd(t, l, 4, 5, []api.Req{}, 5, api.OK)
	wantAdd(t, l, 4, 5, nil, 6, api.OK)
	wantLead(t, l, want.added(5).added(5))
}

// R4

// roomy returns l in memory of its own, where it goes on behind its end with v.
func roomy[T any](l []T, v T) []T {
	return append(slices.Clone(l), v, v, v)[:len(l)]
}

// roomyPromise returns p in memory of its own, all lists with room behind their ends.
func roomyPromise(p api.Promise) api.Promise {
	p.Votes = roomy(p.Votes, vote(p.Done+9, 80, given(8)))
	for i, v := range p.Votes {
		p.Votes[i].Batch.Reqs = roomy(v.Batch.Reqs, keep(6))
	}
	return p
}

// whole returns p and what lies behind the ends of its lists, in memory of its own.
func whole(p api.Promise) api.Promise {
	p.Votes = slices.Clone(p.Votes[:cap(p.Votes)])
	for i, v := range p.Votes {
		p.Votes[i].Batch.Reqs = slices.Clone(v.Batch.Reqs[:cap(v.Batch.Reqs)])
	}
	return p
}

// scrawl writes into all of a list, and into its spare capacity.
func scrawl[T any](l []T, v T) {
	all := l[:cap(l)]
	for i := range all {
		all[i] = v
	}
}

// scrawlVotes writes into all that can be reached from vs.
func scrawlVotes(vs []api.Vote) {
	for _, v := range vs {
		scrawl(v.Batch.Reqs, keep(-7))
	}
	scrawl(vs, vote(-7, -7, api.Batch{Time: -7}))
}

// No call changes the promise that it is handed, its votes or requests, nor what
// lies behind the ends of these, however it ends.
func TestPromisesStay(t *testing.T) {
	for _, p := range slices.Concat(old(), faulty(3), []api.Promise{told(5, 1, row(1, 9, 2)...), told(1, 9)}) {
		for _, s := range samples(t) {
			mine := roomyPromise(p)
			before := whole(mine)
			s.l.Hear(mine)
			for _, other := range []api.Promise{told(0, 2, row(2, 9, 9)...), told(3, 1), told(4, 1)} {
				s.l.Hear(other)
			}
			s.l.Add(9, 9, keep(4))
			s.l.Slots(4)
			s.l.Trim(5)
			s.l.Stop()
			if after := whole(mine); !sameVotes(after.Votes, before.Votes) {
				t.Fatalf("calls turned the votes %+v into %+v", before.Votes, after.Votes)
			}
		}
	}
}

// Whoever writes into the promises that were handed in changes nothing, be it
// before it leads or then.
func TestPromisesAreNotKept(t *testing.T) {
	for _, early := range []bool{false, true} {
		inAllOrders(3, 3, func(order []int) {
			l := asking(t, 5, 9)
			var all []api.Promise
			for i, at := range order {
				p := roomyPromise(old()[at])
				wantHear(t, l, p, i == 2, api.OK)
				if early {
					scrawlVotes(p.Votes)
				}
				all = append(all, p)
			}
			for _, p := range all {
				scrawlVotes(p.Votes)
			}
			wantLead(t, l, leader())
		})
	}
}

// The same promises, handed to two Leads: these share nothing.
func TestPromisesOfTwo(t *testing.T) {
	ps := old()
	a, b := leading(t, 5, 9, ps...), leading(t, 5, 9, ps...)
	scrawlVotes(a.Slots(3))
	scrawlVotes(a.Slots(6))
	wantAdd(t, a, 9, 9, keeps(1), 9, api.OK)
	a.Trim(5)
	wantLead(t, b, leader())
	for i, p := range old() {
		if !sameVotes(ps[i].Votes, p.Votes) {
			t.Errorf("the votes %+v became %+v", p.Votes, ps[i].Votes)
		}
	}
}

// The requests of Add are neither changed nor kept, however it ends.
func TestRequestsStay(t *testing.T) {
	for _, rs := range append(wrongReqs(), nil, keeps(1), keeps(2), keeps(3), full()) {
		mine := roomy(rs, keep(6))
		before := slices.Clone(mine[:cap(mine)])
		for _, s := range samples(t) {
			for _, done := range []int{-1, 0, 9} {
				s.l.Add(done, 9, mine...)
				s.l.Slots(9)
			}
			s.l.Trim(20)
		}
		if after := mine[:cap(mine)]; !slices.Equal(after, before) {
			t.Errorf("calls turned the requests %+v into %+v", before, after)
		}
	}
}

func TestRequestsAreNotKept(t *testing.T) {
	l, want := alone(t, 9, 0)
	mine := roomy(full(), keep(6))
	for slot := 1; slot <= 3; slot++ {
		wantAdd(t, l, 0, 5, mine, slot, api.OK)
		want = want.added(5, full()...)
	}
	scrawl(mine, keep(-7))
	wantLead(t, l, want)
	wantAdd(t, l, 3, 5, keeps(2), 4, api.OK)
	wantLead(t, l, want.added(5, keeps(2)...))
}

// What is told is new memory, all spare capacity too: whoever writes into it
// changes neither the Lead nor what was told before.
func TestSlotsAreNewMemory(t *testing.T) {
	for _, s := range samples(t) {
		for done := -3; done <= 15; done++ {
			first, second := s.l.Slots(done), s.l.Slots(done)
			scrawlVotes(first)
			if want := s.want.window(done); !sameVotes(second, want) {
				t.Errorf("writing into one result turned another one into %+v; want %+v", second, want)
			}
			scrawl(second[len(second):], vote(-7, -7, given(7)))
			for _, v := range second {
				scrawl(v.Batch.Reqs[len(v.Batch.Reqs):], keep(-7))
			}
			if want := s.want.window(done); !sameVotes(second, want) {
				t.Errorf("writing behind the ends of a result turned it into %+v; want %+v", second, want)
			}
		}
		wantLead(t, s.l, s.want)
		if s.want.phase == 2 {
			wantAdd(t, s.l, api.High, 61, keeps(2), s.want.next, api.OK)
			wantLead(t, s.l, s.want.added(61, keeps(2)...))
		}
	}
}

func TestHeardIsNewMemory(t *testing.T) {
	for _, s := range samples(t) {
		first, second := s.l.Heard(), s.l.Heard()
		scrawl(first, -7)
		if !slices.Equal(second, s.want.heard) {
			t.Errorf("writing into one result turned another one into %v; want %v", second, s.want.heard)
		}
		scrawl(second[len(second):], -7)
		if !slices.Equal(second, s.want.heard) {
			t.Errorf("writing behind the end of a result turned it into %v; want %v", second, s.want.heard)
		}
		wantLead(t, s.l, s.want)
		if s.want.phase == 1 {
			s.want.heard = append([]int{0}, s.want.heard...)
			wantHear(t, s.l, told(0, 0), len(s.want.heard) == 3, api.OK)
			if got := s.l.Heard(); !slices.Equal(got, s.want.heard) {
				t.Errorf("Heard() = %v; want %v", got, s.want.heard)
			}
		}
	}
}

// What was told stays as it is, whatever happens to the Lead.
func TestResultsStay(t *testing.T) {
	l := leading(t, 5, 9, old()...)
	wantAdd(t, l, 7, 70, full(), 9, api.OK)
	low, high, heard := l.Slots(3), l.Slots(6), l.Heard()
	for i := range 20 {
		wantAdd(t, l, api.High, 70, keeps(1), 10+i, api.OK)
		l.Trim(3 + i)
	}
	l.Stop()
	wantBegin(t, l, 3, api.OK)
	wantHear(t, l, told(0, 0, row(0, 9, 2)...), false, api.OK)
	want := leader().added(70, full()...)
	if !sameVotes(low, want.window(3)) || !sameVotes(high, want.window(6)) || !slices.Equal(heard, want.heard) {
		t.Errorf("what was told became %+v, %+v and %v", low, high, heard)
	}
}

// R6

func TestNil(t *testing.T) {
	for _, none := range []*lead.Lead{nil, lead.New(0), lead.New(8)} {
		for _, n := range slices.Concat(below, edges, above) {
			wantBegin(t, none, n, api.ErrNone)
			for _, p := range []api.Promise{{From: n}, {Done: n}, told(0, 3, row(3, 4, 2)...), faulty(1)[0]} {
				wantHear(t, none, p, false, api.ErrNone)
			}
			for _, rs := range [][]api.Req{nil, keeps(2), keeps(4)} {
				wantAdd(t, none, n, 0, rs, 0, api.ErrNone)
				wantAdd(t, none, 0, n, rs, 0, api.ErrNone)
			}
			none.Trim(n)
			none.Stop()
		}
		wantLead(t, none, state{})
	}
}
