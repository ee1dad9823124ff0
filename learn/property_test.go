package learn_test

import (
	"math/rand"
	"slices"
	"testing"

	"padlock/api"
	"padlock/learn"
)

// said is a vote as Hear is handed it.
type said struct {
	from, ballot, slot int
	b                  api.Batch
	wellFormed         bool
}

// history is all that happened to a learner of n replicas: the Dones that were
// set, and the votes that were heard, in order. What the learner must tell is
// looked up in it.
type history struct {
	n     int
	dones []int
	heard []said
}

func (h *history) done() int {
	if len(h.dones) == 0 {
		return 0
	}
	return h.dones[len(h.dones)-1]
}

// latest returns the votes for slot in the greatest ballot.
func (h *history) latest(slot int) votes {
	v := votes{slot: slot, ballot: -1}
	for _, s := range h.heard {
		if s.slot == slot {
			v.ballot = max(v.ballot, s.ballot)
		}
	}
	for i := len(h.heard) - 1; i >= 0; i-- {
		if s := h.heard[i]; s.slot == slot && s.ballot == v.ballot {
			v.b = s.b // the first one of them is the last that is come by
			v.who = append(v.who, s.from)
		}
	}
	slices.Sort(v.who)
	v.who = slices.Compact(v.who)
	return v
}

// kept returns the votes that were not trimmed.
func (h *history) kept() []votes {
	var all []votes
	for slot := h.done() + 1; slot <= h.done()+9; slot++ {
		if v := h.latest(slot); len(v.who) > 0 {
			all = append(all, v)
		}
	}
	return all
}

func (h *history) hear(s said) api.Errno {
	past := s.slot - h.done()
	v := h.latest(s.slot)
	switch {
	case s.from < 0 || s.from >= h.n || min(s.ballot, s.slot-1) < 0 || max(s.ballot, s.slot) > 1<<61 || !s.wellFormed:
		return api.ErrArg
	case past <= 0 || 2*len(v.who) > h.n:
		return api.ErrOld
	case past > 9:
		return api.ErrFull
	case s.ballot < v.ballot:
		return api.ErrOld
	}
	h.heard = append(h.heard, s)
	return api.OK
}

func (h *history) trim(done int) {
	if done > h.done() && done <= 1<<61 {
		h.dones = append(h.dones, done)
	}
}

// call is a Hear, or a Trim up to the slot.
type call struct {
	said
	trim bool
}

// watched is a learner, with its history and the batches that were chosen so far.
type watched struct {
	l      *learn.Learner
	h      history
	chosen []votes
}

func watch(n int) *watched {
	return &watched{l: learn.New(n), h: history{n: n}}
}

// do makes the call, and holds how it ends against the history, and what is
// chosen then against 15.3.
func (w *watched) do(t *testing.T, c call) api.Errno {
	t.Helper()
	code := api.OK
	if c.trim {
		w.h.trim(c.slot)
		w.l.Trim(c.slot)
	} else {
		code = w.h.hear(c.said)
		wantHear(t, w.l, c.from, c.ballot, c.slot, c.b, code)
	}
	w.wantChosen(t)
	return code
}

// wantHistory holds all that is told against the history.
func (w *watched) wantHistory(t *testing.T) {
	t.Helper()
	wantTold(t, w.l, w.h.n, w.h.done(), w.h.kept()...)
}

// 15.3: what is chosen stays so, up to Trim.
func (w *watched) wantChosen(t *testing.T) {
	t.Helper()
	w.chosen = behind(w.l.Done(), w.chosen)
	for _, v := range w.chosen {
		if b, ok := w.l.Chosen(v.slot); !ok || !same(b, v.b) {
			t.Fatalf("in slot %d, %+v was chosen, and then %+v, %v", v.slot, v.b, b, ok)
		}
	}
	w.chosen = nil
	for slot := w.l.Done() + 1; slot <= w.l.Done()+9; slot++ {
		if b, ok := w.l.Chosen(slot); ok {
			w.chosen = append(w.chosen, votes{slot: slot, b: b})
		}
	}
}

func hear(from, ballot, slot int, b api.Batch) call {
	return call{said: said{from, ballot, slot, b, true}}
}

// All sequences of up to five of a few calls. What is told is asked behind the
// last one: those that begin a sequence are one too.
func TestAllShortSequences(t *testing.T) {
	few := []call{
		hear(0, 1, 1, given(1)),
		hear(1, 1, 1, given(1)),
		hear(2, 1, 1, fill()),
		hear(1, 0, 1, given(2)),
		hear(0, 2, 1, given(3)),
		hear(1, 2, 2, fill()),
		hear(0, 2, 10, given(4)),
		{said: said{slot: 1}, trim: true},
		{said: said{slot: 3}, trim: true},
	}
	var try func(cs []call)
	try = func(cs []call) {
		w := watch(3)
		for _, c := range cs {
			w.do(t, c)
		}
		w.wantHistory(t)
		if len(cs) == 5 {
			return
		}
		for _, c := range few {
			try(append(cs[:len(cs):len(cs)], c))
		}
	}
	try(nil)
}

// anyCall returns a call near to where the learner is, or any other one.
func anyCall(r *rand.Rand, w *watched) call {
	done := w.l.Done()
	c := hear(r.Intn(w.h.n), r.Intn(4), done+r.Intn(12)-1, given(r.Intn(5)))
	if ballot, _ := w.l.Heard(c.slot); r.Intn(3) > 0 {
		c.ballot = ballot + r.Intn(3) - 1
	}
	switch r.Intn(30) {
	case 0:
		c.from = []int{-1, w.h.n, r.Intn(1000)}[r.Intn(3)]
	case 1:
		c.ballot = []int{-1, 0, api.High, api.High + 1, r.Intn(1000)}[r.Intn(5)]
	case 2:
		c.slot = []int{-1, 0, api.High, api.High + 1, r.Intn(1000)}[r.Intn(5)]
	case 3:
		bs := notWellFormed()
		c.b, c.wellFormed = bs[r.Intn(len(bs))], false
	case 4:
		bs := wellFormed()
		c.b = bs[r.Intn(len(bs))]
	case 5, 6:
		c.trim = true
		c.slot = done + r.Intn(7) - 3
	}
	return c
}

// Long sequences for each number of replicas, some of which begin near High.
func TestLongSequences(t *testing.T) {
	ends := map[api.Errno]int{}
	most := 0
	for seed := range int64(140) {
		r := rand.New(rand.NewSource(seed))
		w := watch(1 + int(seed)%7)
		if seed%4 == 0 {
			w.do(t, call{said: said{slot: api.High - r.Intn(300)}, trim: true})
		}
		for range 400 {
			c := anyCall(r, w)
			if c.trim && c.slot == api.High { // nothing is left to do behind it
				continue
			}
			ends[w.do(t, c)]++
			w.wantHistory(t)
			most = max(most, len(w.chosen))
		}
	}
	for _, code := range []api.Errno{api.OK, api.ErrArg, api.ErrOld, api.ErrFull} {
		if ends[code] < 500 {
			t.Errorf("%d calls ended with code %d", ends[code], code)
		}
	}
	if most < 7 {
		t.Errorf("at most %d batches were chosen at once", most)
	}
}

// 15.3: an election's votes, heard by many learners in any order, each of which
// misses some of them. No two choose different batches, and one that hears all
// of them, ballot by ballot, chooses one.
func TestLearnersAgree(t *testing.T) {
	for seed := range int64(300) {
		r := rand.New(rand.NewSource(seed))
		n := 1 + int(seed)%7
		cast := election(r, n)
		var told []api.Batch
		for range 20 {
			l := learn.New(n)
			for _, at := range r.Perm(len(cast)) {
				if s := cast[at]; r.Intn(6) > 0 {
					l.Hear(s.from, s.ballot, 1, s.b)
				}
			}
			if b, ok := l.Chosen(1); ok {
				told = append(told, b)
			}
		}
		l := learn.New(n)
		for _, s := range cast {
			l.Hear(s.from, s.ballot, 1, s.b)
		}
		b, ok := l.Chosen(1)
		if !ok {
			t.Errorf("none of the votes %+v of %d replicas is chosen", cast, n)
		}
		for _, other := range told {
			if !same(b, other) {
				t.Errorf("of the votes %+v of %d replicas, %+v and %+v are chosen", cast, n, b, other)
			}
		}
	}
}

// election returns votes in rising ballots, all of one ballot for the same batch.
// In the first ballots fewer vote than are needed, for another batch each time;
// in the last ones enough do, for the same batch in all of these.
func election(r *rand.Rand, n int) []said {
	var cast []said
	early := r.Intn(4)
	for ballot := range early + 1 + r.Intn(3) {
		b, count := given(early), needed[n]+r.Intn(n-needed[n]+1)
		if ballot < early {
			b, count = given(ballot), r.Intn(needed[n])
		}
		for _, from := range r.Perm(n)[:count] {
			cast = append(cast, said{from: from, ballot: ballot, b: b})
		}
	}
	return cast
}
