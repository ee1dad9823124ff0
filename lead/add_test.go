package lead_test

import (
	"slices"
	"testing"

	"padlock/api"
	"padlock/lead"
)

// 17.2: Add, and how it ends

// alone returns a Lead of one replica that leads this view, with slots for the
// batches behind done.
func alone(t *testing.T, view, done int, bs ...api.Batch) (*lead.Lead, state) {
	t.Helper()
	p := told(0, done)
	want := state{phase: 2, view: view, heard: []int{0}, next: done + 1, tip: p.Tip, time: p.Time}
	for _, b := range bs {
		p.Votes = append(p.Votes, vote(want.next, 0, b))
		want.slots = append(want.slots, vote(want.next, view, b))
		want.next++
	}
	l := leading(t, 1, view, p)
	wantLead(t, l, want)
	return l, want
}

// wrongReqs returns lists of requests that no batch may have (12.1).
func wrongReqs() [][]api.Req {
	all := [][]api.Req{
		keeps(4),
		keeps(8),
		make([]api.Req, 4),
		{keep(1), keep(1)},
		{keep(1), keep(2), keep(1)},
		{keep(2), keep(1), keep(1)},
		{keep(1), {Client: 1, Seq: 9, Cmd: api.Cmd{Kind: api.Open}}},
	}
	for _, r := range []api.Req{
		{},
		keep(8),
		keep(-1),
		{Client: 1, Cmd: api.Cmd{Kind: api.Open}},
		{Client: 1, Seq: api.High + 1, Cmd: api.Cmd{Kind: api.Open}},
		{Client: 1, Seq: 1, Cmd: api.Cmd{Kind: api.Open, Session: 1}},
		{Client: 1, Seq: 1, Cmd: api.Cmd{Kind: api.Close + 1, Session: 1}},
		{Client: 1, Seq: 1, Cmd: api.Cmd{Kind: api.Try, Session: 1, Name: "Door"}},
	} {
		all = append(all, []api.Req{r}, []api.Req{r, keep(2)}, []api.Req{keep(2), r}, []api.Req{keep(2), keep(3), r})
	}
	return all
}

// But in Phase 2 ErrOld is told first, whatever else is wrong.
func TestAddInOtherPhases(t *testing.T) {
	for _, s := range samples(t) {
		if s.want.phase == 2 {
			continue
		}
		for _, done := range slices.Concat(off(), edges) {
			wantAdd(t, s.l, done, 7, keeps(1), 0, api.ErrOld)
			wantAdd(t, s.l, 0, done, keeps(1), 0, api.ErrOld)
			wantAdd(t, s.l, done, done, keeps(4), 0, api.ErrOld)
		}
		wantLead(t, s.l, s.want)
	}
}

// Each fault, and two and three at once, also where there is no room: these are
// told before that.
func TestAddOfWhatMayNotBe(t *testing.T) {
	for _, done := range []int{0, 3, 4, 90, api.High - 1, api.High} {
		for _, all := range [][]api.Batch{nil, {given(1)}, {given(1), fill(), given(2), given(3)}} {
			if done+len(all) > api.High {
				continue
			}
			l, want := alone(t, 6, done, all...)
			for _, n := range off() {
				for _, rs := range [][]api.Req{nil, keeps(3), keeps(4)} {
					wantAdd(t, l, n, 9, rs, 0, api.ErrArg)
					wantAdd(t, l, done, n, rs, 0, api.ErrArg)
					wantAdd(t, l, 0, n, rs, 0, api.ErrArg)
					wantAdd(t, l, n, n, rs, 0, api.ErrArg)
				}
			}
			for _, rs := range wrongReqs() {
				wantAdd(t, l, done, 9, rs, 0, api.ErrArg)
				wantAdd(t, l, 0, 9, rs, 0, api.ErrArg)
				wantAdd(t, l, api.High, 9, rs, 0, api.ErrArg)
			}
			wantLead(t, l, want)
		}
	}
}

// Next at done + Window and one above it, of what was taken over and of what was added.
func TestAddWithoutRoom(t *testing.T) {
	for _, done := range []int{0, 1, 5, 1 << 32, api.High - 30} {
		for taken := range 10 {
			var all []api.Batch
			for i := range taken {
				all = append(all, given(i))
			}
			l, want := alone(t, 6, done, all...)
			for range 5 {
				next := want.next
				for _, n := range []int{0, done, next - 9, next - 5, next - 4} {
					if n = max(0, n); n+3 < next {
						wantAdd(t, l, n, 8, keeps(1), 0, api.ErrFull)
					}
				}
				wantLead(t, l, want)
				wantAdd(t, l, max(0, next-3), 8, keeps(1), next, api.OK)
				want = want.added(8, keeps(1)...)
				wantLead(t, l, want)
			}
		}
	}
}

// done is only what the call is told: Trim doesn't make room, and a done that
// is greater than all slots does.
func TestAddWithAnyDone(t *testing.T) {
	l, want := alone(t, 6, 4, given(1), given(2), given(3))
	l.Trim(7)
	want = want.trimmed(7)
	wantAdd(t, l, 4, 8, nil, 0, api.ErrFull)
	wantAdd(t, l, 0, 8, nil, 0, api.ErrFull)
	wantLead(t, l, want)
	for _, done := range []int{5, 6, 7, 8, 9, 30, 1 << 40, api.High - 1, api.High} {
		wantAdd(t, l, done, 8, nil, want.next, api.OK)
		want = want.added(8)
		wantLead(t, l, want)
	}
}

func TestAddNearHigh(t *testing.T) {
	for past := range 5 {
		for _, far := range []bool{false, true} {
			done := api.High - past
			l, want := alone(t, 6, done)
			for slot := done + 1; slot <= api.High; slot++ {
				told := slot - 1
				if far {
					told = api.High
				}
				wantAdd(t, l, told, 8, keeps(2), slot, api.OK)
				want = want.added(8, keeps(2)...)
				wantLead(t, l, want)
			}
			for range 3 {
				for _, n := range []int{0, api.High - 4, api.High - 3, api.High - 2, api.High - 1, api.High} {
					wantAdd(t, l, n, 8, keeps(2), 0, api.ErrFull)
				}
				wantLead(t, l, want)
				l.Trim(api.High)
				want = want.trimmed(api.High)
			}
		}
	}
}

// 17.2: the batch, and what Last and Next are then

// The batch has the View, the Tip of Last, the time and the requests, as many of
// them as there may be, in their order.
func TestAdd(t *testing.T) {
	for _, view := range edges {
		for _, rs := range [][]api.Req{nil, {}, keeps(1), keeps(2), keeps(3), {keep(0), keep(7), keep(3)}, full()} {
			for _, time := range edges {
				l, want := alone(t, view, 5)
				wantAdd(t, l, 5, time, rs, 6, api.OK)
				want = want.added(time, rs...)
				wantLead(t, l, want)
				wantSlots(t, l, 5, []api.Vote{vote(6, view, api.Batch{View: view, Tip: tip(1, 5), Time: time, Reqs: rs})})
				wantLast(t, l, tip(view, 6), max(3, time))
				if next := l.Next(); next != 7 {
					t.Errorf("Next() = %d; want 7", next)
				}
			}
		}
	}
}

func wantLast(t *testing.T, l *lead.Lead, tip api.Tip, time int) {
	t.Helper()
	if at, last := l.Last(); at != tip || last != time {
		t.Errorf("Last() = %v, %d; want %v, %d", at, last, tip, time)
	}
}

// A rising time becomes that of Last, a lesser one doesn't; a batch has its own.
func TestAddOfTimes(t *testing.T) {
	l, want := alone(t, 6, 5)
	for i, c := range []struct{ time, last int }{{3, 3}, {2, 3}, {0, 3}, {4, 4}, {4, 4}, {9, 9}, {8, 9}, {9, 9}, {10, 10}, {api.High - 1, api.High - 1}, {0, api.High - 1}, {api.High, api.High}, {1, api.High}} {
		wantAdd(t, l, 5+i, c.time, nil, 6+i, api.OK)
		want = want.added(c.time)
		wantLead(t, l, want)
		wantLast(t, l, tip(6, 6+i), c.last)
		if b := l.Slots(5 + i)[0].Batch; b.Time != c.time {
			t.Errorf("the batch with the time %d has the time %d", c.time, b.Time)
		}
	}
}

// Behind a plan, the first batch that is added has the Tip of its End, be there
// Fills and what is not valid between, and not that of its Tip.
func TestAddBehindPlans(t *testing.T) {
	x := behind(tip(1, 5), 3, 90, keep(2))
	for _, c := range []struct {
		bs   []api.Batch
		end  api.Tip
		time int
	}{
		{nil, tip(1, 5), 3},
		{[]api.Batch{x}, tip(3, 6), 90},
		{[]api.Batch{x, fill(), fill()}, tip(3, 6), 90},
		{[]api.Batch{fill(), x, x}, tip(3, 7), 90},
		{[]api.Batch{given(1), given(2)}, tip(1, 5), 3},
		{[]api.Batch{x, behind(tip(3, 6), 3, 80), given(1)}, tip(3, 7), 90},
	} {
		p := told(0, 5)
		slot := 6
		for _, b := range c.bs {
			p.Votes = append(p.Votes, vote(slot, 3, b))
			slot++
		}
		l := leading(t, 1, 4, p)
		wantAdd(t, l, slot-1, 70, keeps(1), slot, api.OK)
		wantAdd(t, l, slot-1, 95, nil, slot+1, api.OK)
		wantSlots(t, l, slot-1, []api.Vote{
			vote(slot, 4, behind(c.end, 4, 70, keeps(1)...)),
			vote(slot+1, 4, behind(tip(4, slot), 4, 95)),
		})
		wantLast(t, l, tip(4, slot+1), 95)
	}
}
