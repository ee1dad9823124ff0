package accept_test

import (
	"math/rand"
	"testing"

	"padlock/accept"
	"padlock/api"
)

// history is all that happened to an acceptor: the ballots and the Dones that
// were set, and the votes in the order in which they were given. What the
// acceptor must tell is looked up in it, from behind.
type history struct {
	ballots, dones []int
	votes          []api.Vote
}

func last(l []int) int {
	if len(l) == 0 {
		return 0
	}
	return l[len(l)-1]
}

// latest returns the last vote for slot.
func (h *history) latest(slot int) (api.Vote, bool) {
	for i := len(h.votes) - 1; i >= 0; i-- {
		if h.votes[i].Slot == slot {
			return h.votes[i], true
		}
	}
	return api.Vote{}, false
}

// kept returns the votes that were not trimmed.
func (h *history) kept() []api.Vote {
	var all []api.Vote
	for slot := last(h.dones) + 1; slot <= last(h.dones)+9; slot++ {
		if v, ok := h.latest(slot); ok {
			all = append(all, v)
		}
	}
	return all
}

func (h *history) promise(ballot int) api.Errno {
	switch {
	case ballot < 0 || ballot > 1<<61:
		return api.ErrArg
	case ballot < last(h.ballots):
		return api.ErrOld
	}
	h.ballots = append(h.ballots, ballot)
	return api.OK
}

func (h *history) accept(v api.Vote, wellFormed bool) api.Errno {
	past := v.Slot - last(h.dones)
	switch {
	case min(v.Ballot, v.Slot-1) < 0 || max(v.Ballot, v.Slot) > 1<<61 || !wellFormed:
		return api.ErrArg
	case v.Ballot < last(h.ballots) || past <= 0:
		return api.ErrOld
	case past > 9:
		return api.ErrFull
	}
	h.ballots = append(h.ballots, v.Ballot)
	h.votes = append(h.votes, v)
	return api.OK
}

func (h *history) trim(done int) {
	if done > last(h.dones) && done <= 1<<61 {
		h.dones = append(h.dones, done)
	}
}

// call is one of Promise, Accept and Trim.
type call struct {
	kind       int
	ballot, at int // at: the slot, or done
	b          api.Batch
	wellFormed bool
}

const (
	promise = iota
	accepts
	trim
)

// watched is an acceptor, with its history and what it told before.
type watched struct {
	a            *accept.Acceptor
	h            history
	ballot, done int
}

// do makes the call, and holds all that is told against the history and 14.2.
func (w *watched) do(t *testing.T, c call) api.Errno {
	t.Helper()
	code := api.OK
	switch c.kind {
	case promise:
		code = w.h.promise(c.ballot)
		wantPromise(t, w.a, c.ballot, code)
	case accepts:
		code = w.h.accept(vote(c.at, c.ballot, c.b), c.wellFormed)
		wantAccept(t, w.a, c.ballot, c.at, c.b, code)
	case trim:
		w.h.trim(c.at)
		w.a.Trim(c.at)
	}
	wantTold(t, w.a, last(w.h.ballots), last(w.h.dones), w.h.kept()...)
	w.wantProperties(t)
	return code
}

// 14.2
func (w *watched) wantProperties(t *testing.T) {
	t.Helper()
	ballot, done, votes := w.a.Ballot(), w.a.Done(), w.a.Votes()
	if ballot < w.ballot || done < w.done {
		t.Fatalf("Ballot and Done fell from %d and %d to %d and %d", w.ballot, w.done, ballot, done)
	}
	if len(votes) > 9 {
		t.Fatalf("there are %d votes", len(votes))
	}
	before := done
	for _, v := range votes {
		if v.Ballot > ballot || v.Ballot < 0 || v.Slot <= before || v.Slot > done+9 {
			t.Fatalf("with Ballot %d and Done %d there are the votes %+v", ballot, done, votes)
		}
		before = v.Slot
	}
	w.ballot, w.done = ballot, done
}

// All sequences of up to five of a few calls.
func TestAllShortSequences(t *testing.T) {
	few := []call{
		{kind: promise, ballot: 1},
		{kind: promise, ballot: 2},
		{kind: trim, at: 1},
		{kind: trim, at: 3},
		{kind: accepts, ballot: 0, at: 1, b: fill(), wellFormed: true},
		{kind: accepts, ballot: 1, at: 3, b: given(1), wellFormed: true},
		{kind: accepts, ballot: 2, at: 2, b: given(2), wellFormed: true},
		{kind: accepts, ballot: 2, at: 10, b: given(3), wellFormed: true},
		{kind: accepts, ballot: 3, at: 2, b: api.Batch{Fill: true, Time: 1}},
	}
	var try func(cs []call)
	try = func(cs []call) {
		w := watched{a: accept.New()}
		for _, c := range cs {
			w.do(t, c)
		}
		if len(cs) == 5 {
			return
		}
		for _, c := range few {
			try(append(cs[:len(cs):len(cs)], c))
		}
	}
	try(nil)
}

// anyCall returns a call near to where the acceptor is, or any other one.
func anyCall(r *rand.Rand, w *watched) call {
	c := call{kind: accepts, ballot: w.ballot + r.Intn(5) - 1, at: w.done + r.Intn(12) - 1, wellFormed: true}
	if r.Intn(10) == 0 {
		c.ballot = []int{-1, 0, api.High + 1, r.Intn(1000)}[r.Intn(4)]
	}
	if r.Intn(10) == 0 {
		c.at = []int{-1, 0, api.High, api.High + 1, r.Intn(1000)}[r.Intn(5)]
	}
	switch r.Intn(8) {
	case 0:
		c.kind = promise
	case 1:
		c.kind = trim
		if c.at == api.High { // nothing is left to do behind it
			c.at = w.done
		}
	}
	bs := wellFormed()
	if r.Intn(10) == 0 {
		bs, c.wellFormed = notWellFormed(), false
	}
	c.b = bs[r.Intn(len(bs))]
	return c
}

// Long sequences, some of which begin near High.
func TestLongSequences(t *testing.T) {
	ends := map[api.Errno]int{}
	most := 0
	for seed := range int64(100) {
		r := rand.New(rand.NewSource(seed))
		w := watched{a: accept.New()}
		if seed%4 == 0 {
			w.do(t, call{kind: promise, ballot: api.High - r.Intn(300)})
			w.do(t, call{kind: trim, at: api.High - r.Intn(300)})
		}
		for range 400 {
			c := anyCall(r, &w)
			ends[w.do(t, c)]++
			most = max(most, len(w.a.Votes()))
		}
	}
	for _, code := range []api.Errno{api.OK, api.ErrArg, api.ErrOld, api.ErrFull} {
		if ends[code] < 500 {
			t.Errorf("%d calls ended with code %d", ends[code], code)
		}
	}
	if most != api.MaxLog {
		t.Errorf("there were %d votes at most", most)
	}
}
