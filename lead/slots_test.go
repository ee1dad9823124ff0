package lead_test

import (
	"testing"

	"padlock/api"
)

// 17.3: Slots

// Ballot is the View, and neither the ballot of the vote that was told nor the
// View of the batch; so it is for what was taken over and for what was added.
func TestSlots(t *testing.T) {
	x := behind(tip(1, 5), 3, 90, keep(2), keep(0))
	l := leading(t, 1, 40, told(0, 5, vote(6, 7, x), vote(8, 41, given(4))))
	wantAdd(t, l, 6, 50, full(), 9, api.OK)
	wantAdd(t, l, 9, 60, nil, 10, api.OK)
	all := []api.Vote{
		vote(6, 40, x),
		vote(7, 40, fill()),
		vote(8, 40, given(4)),
		vote(9, 40, behind(tip(3, 6), 40, 50, full()...)),
		vote(10, 40, behind(tip(40, 9), 40, 60)),
	}
	for done, want := range [][]api.Vote{2: nil, 3: all[:1], 4: all[:2], 5: all[:3], 6: all[1:4], 7: all[2:5], 8: all[3:], 9: all[4:], 10: nil, 11: nil} {
		wantSlots(t, l, done, want)
	}
	for _, done := range off() {
		wantSlots(t, l, done, nil)
	}
}

// A done below 0, from which some of the slots are not further than Window.
func TestSlotsBeforeTheFirst(t *testing.T) {
	l, want := alone(t, 6, 0, given(1), given(2), given(3), given(4))
	for done, count := range map[int]int{-5: 0, -4: 0, -3: 0, -2: 1, -1: 2, 0: 3} {
		wantSlots(t, l, done, want.slots[:count])
	}
	wantSlots(t, l, 1, want.slots[1:])
}

func TestSlotsNearHigh(t *testing.T) {
	l, want := alone(t, 6, api.High-4, given(1), given(2))
	wantAdd(t, l, api.High, 5, keeps(1), api.High-1, api.OK)
	wantAdd(t, l, api.High, 5, keeps(2), api.High, api.OK)
	want = want.added(5, keeps(1)...).added(5, keeps(2)...)
	wantLead(t, l, want)
	all := want.slots
	for past, slots := range [][]api.Vote{nil, all[3:], all[2:], all[1:], all[:3], all[:2], all[:1], nil} {
		wantSlots(t, l, api.High-past, slots)
	}
	wantSlots(t, l, api.High+1, nil)
}

// However many slots there are, no more than Window of them are told at once.
func TestSlotsOfManySlots(t *testing.T) {
	l, want := alone(t, 6, 0)
	for i := range 200 {
		wantAdd(t, l, api.High, i, keeps(i%4), i+1, api.OK)
		want = want.added(i, keeps(i%4)...)
	}
	wantLead(t, l, want)
	for done := range 198 {
		wantSlots(t, l, done, want.slots[done:done+3])
	}
}

// There are none in Phase 0 and 1, also where there were some before.
func TestSlotsInOtherPhases(t *testing.T) {
	for _, s := range samples(t) {
		for done := -4; done < 15; done++ {
			if s.want.phase < 2 {
				wantSlots(t, s.l, done, nil)
			}
		}
		wantBegin(t, s.l, 9, api.OK)
		for done := -4; done < 15; done++ {
			wantSlots(t, s.l, done, nil)
		}
	}
}

// 17.3: Trim

func TestTrimInOtherPhases(t *testing.T) {
	for _, s := range samples(t) {
		if s.want.phase == 2 {
			continue
		}
		for _, done := range append(off(), edges...) {
			s.l.Trim(done)
			wantLead(t, s.l, s.want)
		}
		if s.want.phase == 0 {
			continue
		}
		// It goes on to hear.
		for i, from := range []int{0, 3, 2}[len(s.want.heard):] {
			wantHear(t, s.l, told(from, 0), len(s.want.heard)+i == 2, api.OK)
		}
		if s.l.Phase() != 2 {
			t.Errorf("behind Trim and a quorum, Phase is %d", s.l.Phase())
		}
	}
}

// wantTrim trims s and asks what it tells then. In Phase 2 it goes on to add,
// else it may begin again.
func wantTrim(t *testing.T, s sample, done int) {
	t.Helper()
	s.l.Trim(done)
	if done >= s.want.next {
		wantLead(t, s.l, s.want.stopped())
		wantHear(t, s.l, told(0, 0), false, api.ErrOld)
		wantAdd(t, s.l, 9, 9, nil, 0, api.ErrOld)
		wantBegin(t, s.l, 2, api.OK)
		wantLead(t, s.l, state{phase: 1, view: 2})
		return
	}
	want := s.want.trimmed(done)
	wantLead(t, s.l, want)
	wantHear(t, s.l, told(0, 0), false, api.ErrOld)
	for i := range 3 {
		wantAdd(t, s.l, api.High, 68+i, keeps(i), want.next, api.OK)
		want = want.added(68+i, keeps(i)...)
		wantLead(t, s.l, want)
	}
	s.l.Trim(done)
	wantLead(t, s.l, want)
}

// In Phase 2, with each done: below the first slot, among the slots, at the last
// one, at Next and above.
func TestTrim(t *testing.T) {
	for at, count := 0, len(samples(t)); at < count; at++ {
		for done := -2; done <= 15; done++ {
			if s := samples(t)[at]; s.want.phase == 2 {
				wantTrim(t, s, done)
			}
		}
		for _, done := range append(off(), edges...) {
			if s := samples(t)[at]; s.want.phase == 2 {
				wantTrim(t, s, done)
			}
		}
	}
}

// Near High, Next is above it, and so is what stops.
func TestTrimNearHigh(t *testing.T) {
	for done := api.High - 5; done <= api.High+3; done++ {
		l, want := alone(t, 6, api.High-3, given(1), given(2))
		wantAdd(t, l, api.High, 7, keeps(1), api.High, api.OK)
		want = want.added(7, keeps(1)...)
		l.Trim(done)
		if done > api.High {
			wantLead(t, l, state{view: 6})
			continue
		}
		wantLead(t, l, want.trimmed(done))
		l.Trim(api.High)
		wantLead(t, l, want.trimmed(api.High))
		l.Trim(api.High + 1)
		wantLead(t, l, state{view: 6})
	}
}

// One after the other, with Adds between, up and down: nothing comes back, and
// Last and Next stay.
func TestTrimAgain(t *testing.T) {
	l, want := alone(t, 6, 0)
	for i := range 300 {
		for range 1 + i%3 {
			wantAdd(t, l, want.next-1, i, keeps(i%4), want.next, api.OK)
			want = want.added(i, keeps(i%4)...)
		}
		done := want.next - 1 - i%5
		l.Trim(done)
		want = want.trimmed(done)
		l.Trim(done - 4)
		l.Trim(0)
		wantLead(t, l, want)
	}
	l.Trim(want.next - 1)
	wantLead(t, l, want.trimmed(want.next-1))
	l.Trim(want.next)
	wantLead(t, l, state{view: 6})
}
