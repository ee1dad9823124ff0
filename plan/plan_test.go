package plan_test

import (
	"math"
	"slices"
	"testing"

	"padlock/api"
	"padlock/plan"
)

// below and above are numbers that nothing in a promise may be, and edges those
// that all but From and a Slot may be; two of above would do if only their last
// bits counted.
var (
	below = []int{math.MinInt, math.MinInt + 1, -1 << 62, -api.High, -256, -9, -2, -1}
	above = []int{api.High + 1, api.High + 9, 1<<62 - 1, 1 << 62, math.MaxInt - 9, math.MaxInt}
	edges = []int{0, 1, 2, 9, 10, 1 << 32, api.High - 9, api.High - 1, api.High}
)

func off() []int {
	return slices.Concat(below, above)
}

// keep returns a request that may be.
func keep(client int) api.Req {
	return api.Req{Client: client, Seq: client + 1, Cmd: api.Cmd{Kind: api.Keep, Session: 4}}
}

// given returns a batch with a request, of which each n has another.
func given(n int) api.Batch {
	take := api.Cmd{Kind: api.Take, Session: n + 1, Name: "door"}
	return api.Batch{View: n, Tip: api.Tip{View: 1, Slot: n}, Time: 2 * n, Reqs: []api.Req{{Client: n % 8, Seq: 1, Cmd: take}}}
}

// behind returns a batch of a view behind tip.
func behind(tip api.Tip, view, time int, reqs ...api.Req) api.Batch {
	return api.Batch{View: view, Tip: tip, Time: time, Reqs: reqs}
}

func tip(view, slot int) api.Tip {
	return api.Tip{View: view, Slot: slot}
}

func fill() api.Batch {
	return api.Batch{Fill: true}
}

// full returns a batch in which there is as much of all as there may be.
func full() api.Batch {
	b := api.Batch{View: api.High, Tip: tip(api.High, api.High), Time: api.High}
	for i := range 3 {
		c := api.Cmd{Kind: api.Take + i, Session: api.High, Name: "twelve-bytes"}
		b.Reqs = append(b.Reqs, api.Req{Client: 7 - i, Seq: api.High, Cmd: c})
	}
	return b
}

// wellFormed returns batches, each time anew.
func wellFormed() []api.Batch {
	return []api.Batch{
		{},
		fill(),
		{Reqs: []api.Req{}},
		{Fill: true, Reqs: []api.Req{}},
		{View: api.High},
		{Tip: tip(api.High, 1)},
		{Time: api.High},
		given(1),
		{Reqs: []api.Req{keep(7), keep(0), keep(3)}},
		full(),
	}
}

// notWellFormed returns batches that may not be (12.1), each time anew.
func notWellFormed() []api.Batch {
	all := []api.Batch{
		{Fill: true, View: 1},
		{Fill: true, Tip: tip(1, 0)},
		{Fill: true, Tip: tip(0, 1)},
		{Fill: true, Time: 1},
		{Fill: true, Reqs: []api.Req{keep(1)}},
		{Reqs: []api.Req{keep(1), keep(2), keep(1)}},
		{Reqs: []api.Req{keep(1), keep(2), keep(3), keep(4)}},
		{Reqs: []api.Req{{}}},
		{Reqs: []api.Req{keep(0), keep(8)}},
		{Reqs: []api.Req{keep(-1)}},
		{Reqs: []api.Req{{Client: 1, Cmd: api.Cmd{Kind: api.Open}}}},
		{Reqs: []api.Req{{Client: 1, Seq: 1, Cmd: api.Cmd{Kind: api.Open, Session: 1}}}},
		{Reqs: []api.Req{{Client: 1, Seq: 1, Cmd: api.Cmd{Kind: api.Try, Session: 1, Name: "Door"}}}},
	}
	for _, v := range off() {
		all = append(all, api.Batch{View: v}, api.Batch{Tip: tip(v, 0)}, api.Batch{Tip: tip(0, v)}, api.Batch{Time: v})
	}
	return all
}

func vote(slot, ballot int, b api.Batch) api.Vote {
	return api.Vote{Slot: slot, Ballot: ballot, Batch: b}
}

// row returns votes for count slots behind done, each one for another batch.
func row(done, count int) []api.Vote {
	var all []api.Vote
	for i := range count {
		all = append(all, vote(done+1+i, 2*i, given(i)))
	}
	return all
}

// told returns a promise with a Tip and a Time that each from and done has its own of.
func told(from, done int, votes ...api.Vote) api.Promise {
	return api.Promise{From: from, Done: done, Tip: tip(from+1, done), Time: 10*from + 3, Votes: votes}
}

// faulty returns promises of this From that may not be (16.1), each time anew.
func faulty(from int) []api.Promise {
	return []api.Promise{
		{From: from, Done: -1},
		{From: from, Tip: tip(-1, 0)},
		{From: from, Tip: tip(0, api.High+1)},
		{From: from, Time: -1},
		{From: from, Time: api.High + 1},
		told(from, 3, vote(3, 1, fill())),
		told(from, 3, vote(13, 1, fill())),
		told(from, 3, vote(5, 1, given(1)), vote(5, 1, given(1))),
		told(from, 3, vote(5, -1, given(1))),
		told(from, 3, vote(4, 1, given(1)), vote(5, 1, api.Batch{Fill: true, Time: 1})),
		told(from, 3, row(3, 10)...),
	}
}

// sameBatch reports whether two batches are equal in all fields. It does not ask
// the project's own packages.
func sameBatch(x, y api.Batch) bool {
	return x.Fill == y.Fill && x.View == y.View && x.Tip == y.Tip && x.Time == y.Time && slices.Equal(x.Reqs, y.Reqs)
}

func samePlan(x, y plan.Plan) bool {
	return x.Done == y.Done && x.Tip == y.Tip && x.Time == y.Time && x.End == y.End && x.Last == y.Last &&
		slices.EqualFunc(x.Batches, y.Batches, sameBatch)
}

// wantPlan asks for a plan.
func wantPlan(t *testing.T, ps []api.Promise, want plan.Plan) {
	t.Helper()
	if got, code := plan.Make(ps...); code != api.OK || !samePlan(got, want) {
		t.Errorf("Make(%+v) = %+v, %d; want %+v", ps, got, code, want)
	}
}

// wantPlans asks for the same plan of all orders of the promises.
func wantPlans(t *testing.T, ps []api.Promise, want plan.Plan) {
	t.Helper()
	inAllOrders(ps, func(ps []api.Promise) { wantPlan(t, ps, want) })
}

// wantCode asks for an error, and for a plan that is zero (R3).
func wantCode(t *testing.T, ps []api.Promise, want api.Errno) {
	t.Helper()
	if got, code := plan.Make(ps...); code != want || !samePlan(got, plan.Plan{}) {
		t.Errorf("Make(%+v) = %+v, %d; want code %d", ps, got, code, want)
	}
}

// inAllOrders calls do with each order of ps, in a list of its own.
func inAllOrders(ps []api.Promise, do func(ps []api.Promise)) {
	var try func(chosen, rest []api.Promise)
	try = func(chosen, rest []api.Promise) {
		if len(rest) == 0 {
			do(chosen)
		}
		for i, p := range rest {
			try(append(slices.Clone(chosen), p), slices.Delete(slices.Clone(rest), i, i+1))
		}
	}
	try(nil, ps)
}

// made is what 16.2 asks of promises that are as they may be. It looks for the
// votes slot by slot, and does not ask the project's own packages.
func made(ps []api.Promise) plan.Plan {
	ps = slices.Clone(ps)
	slices.SortFunc(ps, func(a, b api.Promise) int { return a.From - b.From })
	var x plan.Plan
	top := 0
	for i := len(ps) - 1; i >= 0; i-- {
		if p := ps[i]; p.Done >= x.Done {
			x.Done, x.Tip, x.Time = p.Done, p.Tip, p.Time
		}
		for _, v := range ps[i].Votes {
			top = max(top, v.Slot)
		}
	}
	x.End, x.Last = x.Tip, x.Time
	for slot := x.Done + 1; slot <= top; slot++ {
		b := winner(ps, slot)
		x.Batches = append(x.Batches, b)
		if !b.Fill && b.Tip == x.End {
			x.End, x.Last = tip(b.View, slot), max(x.Last, b.Time)
		}
	}
	return x
}

// winner returns the batch for slot, whatever order the promises are in.
func winner(ps []api.Promise, slot int) api.Batch {
	best, from, b := -1, 99, fill()
	for _, p := range ps {
		for _, v := range p.Votes {
			if v.Slot == slot && (v.Ballot > best || v.Ballot == best && p.From < from) {
				best, from, b = v.Ballot, p.From, v.Batch
			}
		}
	}
	return b
}
