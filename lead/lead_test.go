package lead_test

import (
	"math"
	"slices"
	"testing"

	"padlock/api"
	"padlock/lead"
)

// below and above are numbers that no view, time or done may be, and edges those
// that all of these may be; two of above would do if only their last bits counted.
var (
	below = []int{math.MinInt, math.MinInt + 1, math.MinInt + 4, -1 << 62, -api.High, -256, -9, -4, -3, -2, -1}
	above = []int{api.High + 1, api.High + 2, api.High + 9, 1<<62 - 1, 1 << 62, math.MaxInt - 4, math.MaxInt - 3, math.MaxInt}
	edges = []int{0, 1, 2, 3, 9, 10, 1 << 32, api.High - 9, api.High - 1, api.High}
)

func off() []int {
	return slices.Concat(below, above)
}

// keep returns a request that may be.
func keep(client int) api.Req {
	return api.Req{Client: client, Seq: client + 1, Cmd: api.Cmd{Kind: api.Keep, Session: 4}}
}

// keeps returns requests of so many clients.
func keeps(count int) []api.Req {
	var all []api.Req
	for client := range count {
		all = append(all, keep(7-client))
	}
	return all
}

// behind returns a batch of a view behind tip.
func behind(tip api.Tip, view, time int, reqs ...api.Req) api.Batch {
	return api.Batch{View: view, Tip: tip, Time: time, Reqs: reqs}
}

// given returns a batch with a request, of which each n has another. It is valid
// behind nothing that there is in these tests.
func given(n int) api.Batch {
	take := api.Cmd{Kind: api.Take, Session: n + 1, Name: "door"}
	return behind(tip(99, n), n, 2*n, api.Req{Client: n % 8, Seq: 1, Cmd: take})
}

func tip(view, slot int) api.Tip {
	return api.Tip{View: view, Slot: slot}
}

func fill() api.Batch {
	return api.Batch{Fill: true}
}

// full returns as many requests as there may be, with as much in them as there may be.
func full() []api.Req {
	var all []api.Req
	for i := range 3 {
		c := api.Cmd{Kind: api.Take + i, Session: api.High, Name: "twelve-bytes"}
		all = append(all, api.Req{Client: 7 - i, Seq: api.High, Cmd: c})
	}
	return all
}

func vote(slot, ballot int, b api.Batch) api.Vote {
	return api.Vote{Slot: slot, Ballot: ballot, Batch: b}
}

// row returns votes in this ballot for count slots behind done, each one for another batch.
func row(done, count, ballot int) []api.Vote {
	var all []api.Vote
	for i := range count {
		all = append(all, vote(done+1+i, ballot, given(i)))
	}
	return all
}

// told returns a promise with a Tip and a Time that each from and done has its own of.
func told(from, done int, votes ...api.Vote) api.Promise {
	return api.Promise{From: from, Done: done, Tip: tip(from+1, done), Time: 10*from + 3, Votes: votes}
}

// faulty returns promises of this From that may not be (16.1), each time anew.
func faulty(from int) []api.Promise {
	return []api.Promise{
		{From: from, Done: -1},
		{From: from, Done: api.High + 1},
		{From: from, Tip: tip(-1, 0)},
		{From: from, Tip: tip(0, api.High+1)},
		{From: from, Time: -1},
		{From: from, Time: api.High + 1},
		told(from, 3, vote(3, 1, fill())),
		told(from, 3, vote(13, 1, fill())),
		told(from, 3, vote(5, 1, given(1)), vote(5, 1, given(1))),
		told(from, 3, vote(6, 1, given(1)), vote(5, 1, given(2))),
		told(from, 3, vote(5, -1, given(1))),
		told(from, 3, vote(5, api.High+1, given(1))),
		told(from, 3, vote(4, 1, given(1)), vote(5, 1, api.Batch{Fill: true, Time: 1})),
		told(from, 3, vote(4, 1, behind(tip(0, 0), 1, 1, keep(1), keep(1)))),
		told(from, 3, row(3, 10, 1)...),
	}
}

// Numbers of replicas, and how many of them are a quorum, at least.
var quorum = [8]int{1: 1, 2: 2, 3: 2, 4: 3, 5: 3, 6: 4, 7: 4}

// state is all that a Lead tells: slots are all of its slots.
type state struct {
	phase, view int
	heard       []int
	next        int
	tip         api.Tip
	time        int
	slots       []api.Vote
}

// added returns s behind an Add of a batch with this time and these requests.
func (s state) added(time int, rs ...api.Req) state {
	s.slots = append(slices.Clone(s.slots), vote(s.next, s.view, behind(s.tip, s.view, time, rs...)))
	s.tip, s.time = tip(s.view, s.next), max(s.time, time)
	s.next++
	return s
}

// trimmed returns s with the slots behind done.
func (s state) trimmed(done int) state {
	s.slots = slices.DeleteFunc(slices.Clone(s.slots), func(v api.Vote) bool { return v.Slot <= done })
	return s
}

// stopped returns s behind a Stop.
func (s state) stopped() state {
	return state{view: s.view}
}

// window returns those of the slots that are from done + 1 to done + 3.
func (s state) window(done int) []api.Vote {
	var all []api.Vote
	for _, v := range s.slots {
		if v.Slot-1 >= done && v.Slot-3 <= done {
			all = append(all, v)
		}
	}
	return all
}

// sameBatch reports whether two batches are equal in all fields. It does not ask
// the project's own packages.
func sameBatch(x, y api.Batch) bool {
	return x.Fill == y.Fill && x.View == y.View && x.Tip == y.Tip && x.Time == y.Time && slices.Equal(x.Reqs, y.Reqs)
}

func sameVotes(x, y []api.Vote) bool {
	return slices.EqualFunc(x, y, func(a, b api.Vote) bool {
		return a.Slot == b.Slot && a.Ballot == b.Ballot && sameBatch(a.Batch, b.Batch)
	})
}

// wantSlots asks for the slots behind done.
func wantSlots(t *testing.T, l *lead.Lead, done int, want []api.Vote) {
	t.Helper()
	if got := l.Slots(done); !sameVotes(got, want) {
		t.Fatalf("Slots(%d) = %+v; want %+v", done, got, want)
	}
}

// wantLead asks all that a Lead tells.
func wantLead(t *testing.T, l *lead.Lead, want state) {
	t.Helper()
	for range 2 { // to ask changes nothing
		tip, time := l.Last()
		got := state{phase: l.Phase(), view: l.View(), heard: l.Heard(), next: l.Next(), tip: tip, time: time}
		if got.phase != want.phase || got.view != want.view || got.next != want.next || tip != want.tip || time != want.time || !slices.Equal(got.heard, want.heard) {
			t.Fatalf("there is %+v; want %+v", got, want)
		}
		for _, v := range want.slots {
			wantSlots(t, l, v.Slot-1, want.window(v.Slot-1))
		}
		for past := -13; past <= 3; past++ {
			wantSlots(t, l, want.next+past, want.window(want.next+past))
		}
		for _, done := range slices.Concat(below, edges, above) {
			wantSlots(t, l, done, want.window(done))
		}
	}
}

func wantBegin(t *testing.T, l *lead.Lead, view int, want api.Errno) {
	t.Helper()
	if code := l.Begin(view); code != want {
		t.Fatalf("Begin(%d) = %d; want %d", view, code, want)
	}
}

func wantHear(t *testing.T, l *lead.Lead, p api.Promise, want bool, wantCode api.Errno) {
	t.Helper()
	if leads, code := l.Hear(p); leads != want || code != wantCode {
		t.Fatalf("Hear(%+v) = %v, %d; want %v, %d", p, leads, code, want, wantCode)
	}
}

func wantAdd(t *testing.T, l *lead.Lead, done, time int, rs []api.Req, want int, wantCode api.Errno) {
	t.Helper()
	if slot, code := l.Add(done, time, rs...); slot != want || code != wantCode {
		t.Fatalf("Add(%d, %d, %+v) = %d, %d; want %d, %d", done, time, rs, slot, code, want, wantCode)
	}
}

// asking returns a Lead of n replicas in Phase 1 that heard these promises, fewer than a quorum.
func asking(t *testing.T, n, view int, ps ...api.Promise) *lead.Lead {
	t.Helper()
	l := lead.New(n)
	wantBegin(t, l, view, api.OK)
	for _, p := range ps {
		wantHear(t, l, p, false, api.OK)
	}
	return l
}

// leading returns a Lead of n replicas that leads: these promises are a quorum.
func leading(t *testing.T, n, view int, ps ...api.Promise) *lead.Lead {
	t.Helper()
	last := len(ps) - 1
	l := asking(t, n, view, ps[:last]...)
	wantHear(t, l, ps[last], true, api.OK)
	return l
}

// sample is a Lead, and what it tells.
type sample struct {
	l    *lead.Lead
	want state
}

// old are the promises that the samples of 5 replicas have heard: with slots 4
// to 8, of which 5 and 7 are given nothing.
func old() []api.Promise {
	x := behind(tip(5, 3), 7, 60, keep(1), keep(2))
	return []api.Promise{
		told(4, 3, vote(4, 7, x)),
		told(1, 2, vote(3, 8, given(1)), vote(6, 5, given(2))),
		told(2, 0, vote(8, 6, given(3))),
	}
}

// leader is what a Lead of 5 replicas tells that heard old in view 9.
func leader() state {
	x := old()[0].Votes[0].Batch
	return state{phase: 2, view: 9, heard: []int{1, 2, 4}, next: 9, tip: tip(7, 4), time: 60, slots: []api.Vote{
		vote(4, 9, x), vote(5, 9, fill()), vote(6, 9, given(2)), vote(7, 9, fill()), vote(8, 9, given(3)),
	}}
}

// samples returns Leads of 5 replicas in all phases, each time anew.
func samples(t *testing.T) []sample {
	t.Helper()
	var all []sample
	add := func(l *lead.Lead, want state) *lead.Lead {
		all = append(all, sample{l, want})
		return l
	}
	add(lead.New(5), state{})
	add(leading(t, 5, 9, old()...), leader().stopped()).Stop()
	add(leading(t, 5, 9, old()...), leader().stopped()).Trim(9)
	add(asking(t, 5, 9, old()[:2]...), leader().stopped()).Stop()
	add(asking(t, 5, 9), state{phase: 1, view: 9})
	add(asking(t, 5, 9, old()[0]), state{phase: 1, view: 9, heard: []int{4}})
	add(asking(t, 5, 9, old()[:2]...), state{phase: 1, view: 9, heard: []int{1, 4}})
	add(leading(t, 5, 9, told(0, 0), told(3, 0), told(2, 0)), state{phase: 2, view: 9, heard: []int{0, 2, 3}, next: 1, tip: tip(1, 0), time: 3})
	add(leading(t, 5, 9, old()...), leader())
	add(leading(t, 5, 9, old()...), leader().trimmed(6)).Trim(6)
	add(leading(t, 5, 9, old()...), leader().trimmed(8)).Trim(8)
	l := add(leading(t, 5, 9, old()...), leader().trimmed(5).added(70, keep(3)).added(65))
	l.Trim(5)
	wantAdd(t, l, 6, 70, []api.Req{keep(3)}, 9, api.OK)
	wantAdd(t, l, 7, 65, nil, 10, api.OK)
	for _, s := range all {
		wantLead(t, s.l, s.want)
	}
	return all
}

// 17.1: New

func TestNew(t *testing.T) {
	for n := 1; n <= 7; n++ {
		l := lead.New(n)
		if l == nil {
			t.Fatalf("New(%d) is nil", n)
		}
		wantLead(t, l, state{})
	}
}

func TestNewOfNoReplicas(t *testing.T) {
	for _, n := range slices.Concat(below, []int{0, 8, 9, 15, 16, 256 + 3, 1<<32 + 3, api.High - 1, api.High}, above) {
		if lead.New(n) != nil {
			t.Errorf("New(%d) is not nil", n)
		}
	}
}

func TestNewOnesAreApart(t *testing.T) {
	a, b := lead.New(1), lead.New(1)
	wantBegin(t, a, 4, api.OK)
	wantLead(t, b, state{})
	wantHear(t, a, api.Promise{}, true, api.OK)
	wantAdd(t, a, 0, 8, []api.Req{keep(1)}, 1, api.OK)
	wantLead(t, b, state{})
	wantBegin(t, b, 3, api.OK)
	wantHear(t, b, api.Promise{Done: 6}, true, api.OK)
	b.Stop()
	wantLead(t, a, state{phase: 2, view: 4, heard: []int{0}, next: 1}.added(8, keep(1)))
	wantLead(t, b, state{view: 3})
	wantLead(t, lead.New(1), state{})
}
