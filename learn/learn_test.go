package learn_test

import (
	"math"
	"slices"
	"testing"

	"padlock/api"
	"padlock/learn"
)

// below and above are numbers that no ballot, slot, Done or replica may be; two
// of above would be if only their last bits counted.
var (
	below = []int{math.MinInt, math.MinInt + 1, -1 << 62, -api.High, -256, -9, -2, -1}
	above = []int{api.High + 1, api.High + 9, 1<<62 - 1, 1 << 62, math.MaxInt}
)

// keep returns a request that may be.
func keep(client int) api.Req {
	return api.Req{Client: client, Seq: client + 1, Cmd: api.Cmd{Kind: api.Keep, Session: 4}}
}

// given returns a batch with a request, of which each n has another.
func given(n int) api.Batch {
	take := api.Cmd{Kind: api.Take, Session: n + 1, Name: "door"}
	return api.Batch{View: n, Tip: api.Tip{View: 1, Slot: n}, Time: 2 * n, Reqs: []api.Req{{Client: n % 8, Seq: 1, Cmd: take}}}
}

func fill() api.Batch {
	return api.Batch{Fill: true}
}

// full returns a batch in which there is as much of all as there may be.
func full() api.Batch {
	b := api.Batch{View: api.High, Tip: api.Tip{View: api.High, Slot: api.High}, Time: api.High}
	for i := range 3 {
		c := api.Cmd{Kind: api.Take + i, Session: api.High, Name: "twelve-bytes"}
		b.Reqs = append(b.Reqs, api.Req{Client: 7 - i, Seq: api.High, Cmd: c})
	}
	return b
}

// wellFormed returns batches, each time anew.
func wellFormed() []api.Batch {
	return []api.Batch{
		{},
		fill(),
		{Reqs: []api.Req{}},
		{Fill: true, Reqs: []api.Req{}},
		{View: api.High},
		{Tip: api.Tip{View: api.High, Slot: 1}},
		{Time: api.High},
		given(1),
		{Reqs: []api.Req{keep(7), keep(0), keep(3)}},
		full(),
	}
}

// notWellFormed returns batches that may not be (12.1), each time anew.
func notWellFormed() []api.Batch {
	all := []api.Batch{
		{Fill: true, View: 1},
		{Fill: true, Tip: api.Tip{View: 1}},
		{Fill: true, Tip: api.Tip{Slot: 1}},
		{Fill: true, Time: 1},
		{Fill: true, Reqs: []api.Req{keep(1)}},
		{Reqs: []api.Req{keep(1), keep(2), keep(1)}},
		{Reqs: []api.Req{keep(1), keep(2), keep(3), keep(4)}},
		{Reqs: []api.Req{{}}},
		{Reqs: []api.Req{keep(0), keep(8)}},
		{Reqs: []api.Req{keep(-1)}},
		{Reqs: []api.Req{{Client: 1, Cmd: api.Cmd{Kind: api.Open}}}},
		{Reqs: []api.Req{{Client: 1, Seq: 1, Cmd: api.Cmd{Kind: api.Open, Session: 1}}}},
		{Reqs: []api.Req{{Client: 1, Seq: 1, Cmd: api.Cmd{Kind: api.Try, Session: 1, Name: "Door"}}}},
	}
	for _, v := range slices.Concat(below, above) {
		all = append(all,
			api.Batch{View: v},
			api.Batch{Tip: api.Tip{View: v}},
			api.Batch{Tip: api.Tip{Slot: v}},
			api.Batch{Time: v},
		)
	}
	return all
}

// same reports whether two batches are equal in all fields. It does not ask the
// project's own packages.
func same(x, y api.Batch) bool {
	return x.Fill == y.Fill && x.View == y.View && x.Tip == y.Tip && x.Time == y.Time && slices.Equal(x.Reqs, y.Reqs)
}

// votes are what a learner has of a slot: who voted in this ballot, for b.
type votes struct {
	slot, ballot int
	b            api.Batch
	who          []int
}

func heard(slot, ballot int, b api.Batch, who ...int) votes {
	return votes{slot, ballot, b, who}
}

// needed is how many votes of n replicas choose a batch.
var needed = [8]int{1: 1, 2: 2, 3: 2, 4: 3, 5: 3, 6: 4, 7: 4}

// around are the slots that a learner with this Done and these votes is asked for.
func around(done int, vs []votes) []int {
	all := slices.Concat(below, []int{0, 1, 2, 9, 10, 1 << 40, api.High - 9, api.High - 1, api.High}, above)
	for at := done - 10; at <= done+20; at++ {
		all = append(all, at)
	}
	for _, v := range vs {
		all = append(all, v.slot)
	}
	return all
}

// wantSlot asks for a slot: with v if there are votes for it.
func wantSlot(t *testing.T, l *learn.Learner, n, slot int, vs []votes) {
	t.Helper()
	want := votes{}
	for _, v := range vs {
		if v.slot == slot {
			want = v
		}
	}
	ballot, who := l.Heard(slot)
	if ballot != want.ballot || !slices.Equal(who, want.who) {
		t.Fatalf("Heard(%d) = %d, %v; want %d, %v", slot, ballot, who, want.ballot, want.who)
	}
	chosen := len(want.who) > 0 && len(want.who) >= needed[n]
	if !chosen {
		want.b = api.Batch{}
	}
	if b, ok := l.Chosen(slot); ok != chosen || !same(b, want.b) {
		t.Fatalf("Chosen(%d) = %+v, %v; want %+v, %v: %v of %d replicas voted", slot, b, ok, want.b, chosen, want.who, n)
	}
}

// wantTold asks all that a learner of n replicas tells: there are these votes,
// and no others.
func wantTold(t *testing.T, l *learn.Learner, n, done int, vs ...votes) {
	t.Helper()
	for range 2 { // to ask changes nothing
		if got := l.Done(); got != done {
			t.Fatalf("Done() = %d; want %d", got, done)
		}
		for _, slot := range around(done, vs) {
			wantSlot(t, l, n, slot, vs)
		}
	}
}

func wantHear(t *testing.T, l *learn.Learner, from, ballot, slot int, b api.Batch, want api.Errno) {
	t.Helper()
	if code := l.Hear(from, ballot, slot, b); code != want {
		t.Fatalf("Hear(%d, %d, %d, %+v) = %d; want %d", from, ballot, slot, b, code, want)
	}
}

// made returns a learner of n replicas with this Done and these votes.
func made(t *testing.T, n, done int, vs ...votes) *learn.Learner {
	t.Helper()
	l := learn.New(n)
	l.Trim(done)
	for _, v := range vs {
		for _, from := range v.who {
			wantHear(t, l, from, v.ballot, v.slot, v.b, api.OK)
		}
	}
	return l
}

// 15.1: New

func TestNew(t *testing.T) {
	for n := 1; n <= 7; n++ {
		l := learn.New(n)
		if l == nil {
			t.Fatalf("New(%d) is nil", n)
		}
		wantTold(t, l, n, 0)
	}
}

func TestNewOfNoReplicas(t *testing.T) {
	for _, n := range slices.Concat(below, []int{0, 8, 9, 15, 16, 256 + 3, 1<<32 + 3, api.High - 1, api.High}, above) {
		if learn.New(n) != nil {
			t.Errorf("New(%d) is not nil", n)
		}
	}
}

func TestNewOnesAreApart(t *testing.T) {
	a, b := learn.New(3), learn.New(3)
	wantHear(t, a, 2, 5, 2, given(1), api.OK)
	wantHear(t, a, 1, 5, 2, given(1), api.OK)
	wantTold(t, b, 3, 0)
	b.Trim(2)
	wantHear(t, b, 0, 1, 3, given(2), api.OK)
	wantTold(t, a, 3, 0, heard(2, 5, given(1), 1, 2))
	wantTold(t, b, 3, 2, heard(3, 1, given(2), 0))
	wantTold(t, learn.New(3), 3, 0)
}
