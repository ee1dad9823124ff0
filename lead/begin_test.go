package lead_test

import (
	"testing"

	"padlock/api"
	"padlock/lead"
)

// 17.1: Begin

func TestBegin(t *testing.T) {
	for n := 1; n <= 7; n++ {
		for _, view := range edges {
			l := lead.New(n)
			wantBegin(t, l, view, api.OK)
			wantLead(t, l, state{phase: 1, view: view})
		}
	}
}

func TestBeginOfNoView(t *testing.T) {
	for _, view := range off() {
		for _, s := range samples(t) {
			wantBegin(t, s.l, view, api.ErrArg)
			wantLead(t, s.l, s.want)
		}
	}
}

// In each phase, of the same view, of lesser and of greater ones: nothing that
// was there before has any effect on what follows.
func TestBeginInEachPhase(t *testing.T) {
	for _, view := range []int{0, 1, 8, 9, 10, api.High} {
		for _, s := range samples(t) {
			wantBegin(t, s.l, view, api.OK)
			wantLead(t, s.l, state{phase: 1, view: view})
			wantAdd(t, s.l, 9, 9, nil, 0, api.ErrOld)
			wantHear(t, s.l, told(4, 1), false, api.OK)
			wantHear(t, s.l, told(2, 1), false, api.OK)
			wantLead(t, s.l, state{phase: 1, view: view, heard: []int{2, 4}})
			wantHear(t, s.l, told(1, 1), true, api.OK)
			want := state{phase: 2, view: view, heard: []int{1, 2, 4}, next: 2, tip: tip(2, 1), time: 13}
			wantLead(t, s.l, want)
			wantAdd(t, s.l, 1, 14, keeps(2), 2, api.OK)
			wantLead(t, s.l, want.added(14, keeps(2)...))
		}
	}
}

// Begin again and again, with promises between: only those since the last one count.
func TestBeginAgain(t *testing.T) {
	l := lead.New(3)
	for view := range 20 {
		wantBegin(t, l, 20-view, api.OK)
		wantHear(t, l, told(view%3, view, row(view, 9, 90-view)...), false, api.OK)
		wantLead(t, l, state{phase: 1, view: 20 - view, heard: []int{view % 3}})
	}
	wantBegin(t, l, 0, api.OK)
	wantHear(t, l, told(2, 0), false, api.OK)
	wantHear(t, l, told(0, 0), true, api.OK)
	wantLead(t, l, state{phase: 2, heard: []int{0, 2}, next: 1, tip: tip(1, 0), time: 3})
}

// 17.3: Stop

func TestStop(t *testing.T) {
	for _, s := range samples(t) {
		for range 2 {
			s.l.Stop()
			wantLead(t, s.l, s.want.stopped())
			wantHear(t, s.l, told(0, 0), false, api.ErrOld)
			wantAdd(t, s.l, 9, 9, nil, 0, api.ErrOld)
			s.l.Trim(3)
			wantLead(t, s.l, s.want.stopped())
		}
	}
}

// View stays, whatever it is, and how many replicas there are does, too.
func TestStopOfEachView(t *testing.T) {
	for n := 1; n <= 7; n++ {
		for _, view := range edges {
			l := lead.New(n)
			wantBegin(t, l, view, api.OK)
			l.Stop()
			wantLead(t, l, state{view: view})
			wantBegin(t, l, view, api.OK)
			for from := range quorum[n] {
				wantHear(t, l, told(n, 0), false, api.ErrArg)
				wantHear(t, l, told(from, 0), from+1 == quorum[n], api.OK)
			}
			l.Stop()
			wantLead(t, l, state{view: view})
		}
	}
}
