package lead_test

import (
	"math/rand"
	"slices"
	"testing"

	"padlock/api"
	"padlock/batch"
	"padlock/lead"
	"padlock/plan"
)

// history is what happened to a Lead of n replicas since the last Begin or Stop.
// What the Lead must tell is worked out from all of it.
type history struct {
	n, phase, view int
	promises       []api.Promise
	added          []api.Batch
	trimmed        int
}

// state returns what the Lead must tell: its batches are walked from where the
// plan begins, so that Last is right only if all that was added is valid.
func (h *history) state() state {
	s := state{phase: h.phase, view: h.view}
	for _, p := range h.promises {
		s.heard = append(s.heard, p.From)
	}
	slices.Sort(s.heard)
	if h.phase < 2 {
		return s
	}
	x, _ := plan.Make(h.promises...)
	s.next, s.tip, s.time = x.Done+1, x.Tip, x.Time
	for _, b := range slices.Concat(x.Batches, h.added) {
		if !b.Fill && b.Tip == s.tip {
			s.tip, s.time = tip(b.View, s.next), max(s.time, b.Time)
		}
		if s.next > h.trimmed {
			s.slots = append(s.slots, vote(s.next, h.view, b))
		}
		s.next++
	}
	return s
}

func (h *history) begin(view int) api.Errno {
	if view < 0 || view > 1<<61 {
		return api.ErrArg
	}
	*h = history{n: h.n, phase: 1, view: view}
	return api.OK
}

func (h *history) hear(p api.Promise) (bool, api.Errno) {
	switch {
	case h.phase != 1:
		return false, api.ErrOld
	case !plan.May(p) || p.From >= h.n:
		return false, api.ErrArg
	case slices.Contains(h.state().heard, p.From):
		return false, api.ErrTwice
	}
	h.promises = append(h.promises, p)
	if 2*len(h.promises) > h.n {
		h.phase = 2
	}
	return h.phase == 2, api.OK
}

func (h *history) add(done, time int, rs []api.Req) (int, api.Errno) {
	s := h.state()
	switch {
	case h.phase != 2:
		return 0, api.ErrOld
	case min(done, time) < 0 || max(done, time) > 1<<61 || !batch.May(api.Batch{Reqs: rs}):
		return 0, api.ErrArg
	case s.next > done+3 || s.next > 1<<61:
		return 0, api.ErrFull
	}
	h.added = append(h.added, behind(s.tip, h.view, time, rs...))
	return s.next, api.OK
}

func (h *history) trim(done int) {
	if h.phase == 2 && done >= h.state().next {
		h.stop()
	} else if h.phase == 2 {
		h.trimmed = max(h.trimmed, done)
	}
}

func (h *history) stop() {
	*h = history{n: h.n, view: h.view}
}

// watched is a Lead, with its history and the slots that it ever told since it
// began to lead.
type watched struct {
	l    *lead.Lead
	h    history
	told map[int]api.Batch
}

func watch(n int) *watched {
	return &watched{l: lead.New(n), h: history{n: n}, told: map[int]api.Batch{}}
}

// call is one of the calls that do something, by its name.
type call struct {
	name       string
	view       int
	p          api.Promise
	done, time int
	rs         []api.Req
}

// do makes the call and holds how it ends against the history, and tells its code.
func (w *watched) do(t *testing.T, c call) api.Errno {
	t.Helper()
	code := api.OK
	switch c.name {
	case "begin":
		code = w.h.begin(c.view)
		wantBegin(t, w.l, c.view, code)
	case "hear":
		var leads bool
		leads, code = w.h.hear(c.p)
		wantHear(t, w.l, c.p, leads, code)
	case "add":
		var slot int
		slot, code = w.h.add(c.done, c.time, c.rs)
		wantAdd(t, w.l, c.done, c.time, c.rs, slot, code)
	case "trim":
		w.h.trim(c.done)
		w.l.Trim(c.done)
	case "stop":
		w.h.stop()
		w.l.Stop()
	}
	w.wantOneBatch(t)
	return code
}

// 17.4: in one view each slot has one batch.
func (w *watched) wantOneBatch(t *testing.T) {
	t.Helper()
	if w.l.Phase() < 2 {
		clear(w.told)
	}
	for done := max(0, w.l.Next()-20); done < w.l.Next(); done++ {
		for _, v := range w.l.Slots(done) {
			if b, ok := w.told[v.Slot]; ok && !sameBatch(b, v.Batch) {
				t.Fatalf("in view %d, slot %d has %+v, and then %+v", w.l.View(), v.Slot, b, v.Batch)
			}
			w.told[v.Slot] = v.Batch
		}
	}
}

// All sequences of up to five of a few calls behind a Begin. What is told is asked
// behind the last one: those that begin a sequence are one too.
func TestAllShortSequences(t *testing.T) {
	few := []call{
		{name: "begin", view: 4},
		{name: "begin", view: 3},
		{name: "hear", p: told(0, 1, vote(3, 2, behind(tip(1, 1), 2, 7, keep(1))))},
		{name: "hear", p: told(0, 2)},
		{name: "hear", p: told(1, 0)},
		{name: "add", done: 1, time: 8, rs: keeps(1)},
		{name: "add", done: 3, time: 6},
		{name: "trim", done: 3},
		{name: "trim", done: 4},
		{name: "stop"},
	}
	for n := 1; n <= 2; n++ {
		var try func(cs []call)
		try = func(cs []call) {
			w := watch(n)
			for _, c := range cs {
				w.do(t, c)
			}
			wantLead(t, w.l, w.h.state())
			if len(cs) == 6 {
				return
			}
			for _, c := range few {
				try(append(cs[:len(cs):len(cs)], c))
			}
		}
		try([]call{{name: "begin", view: 5}})
	}
}

// anyCall returns a call near to where the Lead is, or any other one.
func anyCall(r *rand.Rand, w *watched, at int) call {
	next := w.l.Next()
	c := call{name: "add", done: next - 1 - r.Intn(6), time: r.Intn(200), rs: keeps(r.Intn(4))}
	switch r.Intn(60) {
	case 0:
		return call{name: "begin", view: []int{-1, 0, 3, 9, api.High, api.High + 1}[r.Intn(6)]}
	case 1:
		return call{name: "stop"}
	case 2, 3, 4, 5, 6, 7:
		c.name, c.done = "trim", c.done+2
	case 8:
		c.name, c.done = "trim", next+r.Intn(3)-1
	case 9:
		c.time = off()[r.Intn(len(off()))]
	case 10:
		c.done = off()[r.Intn(len(off()))]
	case 11:
		c.rs = wrongReqs()[r.Intn(len(wrongReqs()))]
	case 12, 13:
		c.name, c.p = "hear", faulty(r.Intn(w.h.n))[r.Intn(15)]
	case 14, 15:
		c.name, c.p = "hear", anyPromise(r, r.Intn(9)-1, at)
	}
	if w.l.Phase() == 1 && c.name == "add" && r.Intn(3) > 0 {
		c.name, c.p = "hear", anyPromise(r, r.Intn(w.h.n), at)
	}
	if w.l.Phase() == 0 && r.Intn(3) > 0 {
		c.name, c.view = "begin", r.Intn(9)
	}
	return c
}

// Long sequences for each number of replicas, some of which begin near High.
func TestLongSequences(t *testing.T) {
	ends := map[string]map[api.Errno]int{"begin": {}, "hear": {}, "add": {}, "trim": {}, "stop": {}}
	phases := [3]int{}
	for seed := range int64(140) {
		r := rand.New(rand.NewSource(seed))
		w := watch(1 + int(seed)%7)
		at := []int{0, 50, api.High - 9, api.High - 3}[seed%4]
		for range 300 {
			c := anyCall(r, w, at)
			ends[c.name][w.do(t, c)]++
			phases[w.l.Phase()]++
			wantLead(t, w.l, w.h.state())
		}
	}
	for name, codes := range map[string][]api.Errno{
		"begin": {api.OK, api.ErrArg},
		"hear":  {api.OK, api.ErrArg, api.ErrOld, api.ErrTwice},
		"add":   {api.OK, api.ErrArg, api.ErrOld, api.ErrFull},
		"trim":  {api.OK},
		"stop":  {api.OK},
	} {
		for _, code := range codes {
			if ends[name][code] < 50 {
				t.Errorf("%d of %s ended with code %d", ends[name][code], name, code)
			}
		}
	}
	if min(phases[0], phases[1], phases[2]) < 500 {
		t.Errorf("the phases were there so often: %v", phases)
	}
}
