package plan_test

import (
	"math/rand"
	"reflect"
	"slices"
	"testing"

	"padlock/api"
	"padlock/plan"
)

// R1: promises with any numbers end without a panic, and the same of the same.
func TestAnything(t *testing.T) {
	numbers := slices.Concat(off(), edges, []int{3, 7})
	for _, x := range numbers {
		for _, y := range numbers {
			for _, z := range numbers {
				p := api.Promise{From: x, Done: y, Tip: tip(z, x), Time: y, Votes: []api.Vote{vote(z, x, given(1))}}
				q := api.Promise{From: 1, Done: y, Votes: []api.Vote{vote(z, 1, given(2)), vote(x, y, api.Batch{Time: z})}}
				wantTwins(t, p)
				wantTwins(t, q)
				wantTwins(t, q, p)
				wantTwins(t, api.Promise{From: 2, Done: z}, q, p)
			}
		}
	}
}

// wantTwins asks for the same twice, with other calls between, and for an error
// where a promise is not well-formed.
func wantTwins(t *testing.T, ps ...api.Promise) {
	t.Helper()
	first, code := plan.Make(ps...)
	bad := slices.ContainsFunc(ps, func(p api.Promise) bool { return !plan.May(p) })
	plan.Make(told(0, 70, row(70, 9)...))
	second, again := plan.Make(ps...)
	if code != again || !samePlan(first, second) {
		t.Errorf("Make(%+v) = %+v, %d, and then %+v, %d", ps, first, code, second, again)
	}
	if bad && code != api.ErrArg || code != api.OK && !samePlan(first, plan.Plan{}) {
		t.Errorf("Make(%+v) = %+v, %d", ps, first, code)
	}
}

// R1: lists that are long make no call panic.
func TestLongLists(t *testing.T) {
	const n = 1 << 18
	long := []api.Promise{
		{Votes: make([]api.Vote, n)},
		{Votes: row(0, n)},
		{Votes: slices.Repeat(row(0, 1), n)},
		{Votes: []api.Vote{vote(1, 1, api.Batch{Reqs: make([]api.Req, n)})}},
		{Votes: []api.Vote{vote(1, 1, api.Batch{Fill: true, Reqs: make([]api.Req, n)})}},
		{Votes: []api.Vote{vote(1, 1, api.Batch{Reqs: slices.Repeat(full().Reqs, n)})}},
	}
	for i, p := range long {
		if plan.May(p) {
			t.Errorf("the long promise %d may be", i)
		}
		if x, code := plan.Make(told(1, 3), p, told(2, 3)); code != api.ErrArg || !samePlan(x, plan.Plan{}) {
			t.Errorf("of the long promise %d, there is the plan %+v, %d", i, x, code)
		}
	}
	for i, ps := range [][]api.Promise{make([]api.Promise, n), slices.Repeat(several(7), n/7), slices.Repeat(faulty(1), n/9)} {
		if x, code := plan.Make(ps...); code != api.ErrArg || !samePlan(x, plan.Plan{}) {
			t.Errorf("of many promises (%d), there is the plan %+v, %d", i, x, code)
		}
	}
}

// R3: a nil list and an empty one are the same.
func TestEmptyLists(t *testing.T) {
	for _, b := range []api.Batch{{Reqs: []api.Req{}}, {Fill: true, Reqs: []api.Req{}}} {
		bare := b
		bare.Reqs = nil
		ps := []api.Promise{told(1, 3, vote(5, 1, b)), {From: 0, Done: 3, Tip: tip(4, 3), Votes: []api.Vote{}}}
		wantPlans(t, ps, plan.Plan{Done: 3, Tip: tip(4, 3), Batches: []api.Batch{fill(), bare}, End: tip(4, 3)})
	}
}

// R3: a Fill where there is no vote has no other field.
func TestFillsHaveNoFields(t *testing.T) {
	x, _ := plan.Make(told(1, 3, vote(4, 1, full()), vote(12, 1, full())), told(2, 3))
	for i, b := range x.Batches[1:8] {
		if !b.Fill || b.View != 0 || b.Tip != tip(0, 0) || b.Time != 0 || len(b.Reqs) > 0 {
			t.Errorf("slot %d, which has no vote, is given %+v", 5+i, b)
		}
	}
}

// R4

// roomy returns l in memory of its own, where it goes on behind its end with v.
func roomy[T any](l []T, v T) []T {
	return append(slices.Clone(l), v, v, v)[:len(l)]
}

// roomyPromises returns ps in memory of their own, all lists with room behind their ends.
func roomyPromises(ps []api.Promise) []api.Promise {
	all := roomy(ps, told(5, 3, row(3, 2)...))
	for i, p := range all {
		votes := roomy(p.Votes, vote(p.Done+9, 80, given(8)))
		for j, v := range votes {
			votes[j].Batch.Reqs = roomy(v.Batch.Reqs, keep(6))
		}
		all[i].Votes = votes
	}
	return all
}

// whole returns ps and what lies behind the ends of their lists, in memory of its own.
func whole(ps []api.Promise) []api.Promise {
	all := slices.Clone(ps[:cap(ps)])
	for i, p := range all {
		all[i].Votes = slices.Clone(p.Votes[:cap(p.Votes)])
		for j, v := range all[i].Votes {
			all[i].Votes[j].Batch.Reqs = slices.Clone(v.Batch.Reqs[:cap(v.Batch.Reqs)])
		}
	}
	return all
}

// scrawl writes into all of a list, and into its spare capacity.
func scrawl[T any](l []T, v T) {
	all := l[:cap(l)]
	for i := range all {
		all[i] = v
	}
}

// scrawlPromises writes into all that can be reached from ps.
func scrawlPromises(ps []api.Promise) {
	for _, p := range ps {
		for _, v := range p.Votes {
			scrawl(v.Batch.Reqs, keep(-7))
		}
		scrawl(p.Votes, vote(-7, -7, api.Batch{Time: -7}))
	}
	scrawl(ps, api.Promise{From: -7, Done: -7})
}

// scrawlPlan writes into all that can be reached from x.
func scrawlPlan(x plan.Plan) {
	for _, b := range x.Batches {
		scrawl(b.Reqs, keep(-7))
	}
	scrawl(x.Batches, api.Batch{Time: -7})
}

// sets returns promises to make plans of, some of which may not be.
func sets() [][]api.Promise {
	r := rand.New(rand.NewSource(3))
	all := [][]api.Promise{nil, {{}}, several(7), append(several(3), several(3)...)}
	for _, b := range wellFormed() {
		all = append(all, []api.Promise{told(6, 3, vote(4, 1, b), vote(6, 1, b)), told(1, 3, vote(4, 1, b), vote(5, 0, b)), told(3, 1)})
	}
	for _, p := range faulty(4) {
		all = append(all, []api.Promise{told(6, 3, row(3, 3)...), p, told(1, 2, row(2, 3)...)})
	}
	for range 200 {
		all = append(all, anyPromises(r))
	}
	return all
}

// No call changes the promises that it is handed, their order, their votes or
// requests, nor what lies behind the ends of all of these, however it ends.
func TestPromisesStay(t *testing.T) {
	for _, ps := range sets() {
		mine := roomyPromises(ps)
		before := whole(mine)
		plan.Make(mine...)
		for _, p := range mine {
			plan.May(p)
		}
		if after := whole(mine); !reflect.DeepEqual(after, before) {
			t.Errorf("calls turned the promises %+v into %+v", before, after)
		}
	}
}

// Whoever writes into the promises that were handed in changes no plan.
func TestPromisesAreNotKept(t *testing.T) {
	for _, ps := range sets() {
		mine := roomyPromises(ps)
		got, code := plan.Make(mine...)
		want, _ := plan.Make(ps...)
		scrawlPromises(mine)
		if !samePlan(got, want) {
			t.Errorf("writing into the promises turned the plan of %+v, %d into %+v", ps, code, got)
		}
	}
}

// What is told is new memory, its requests and all spare capacity too: whoever
// writes into it changes neither the promises nor another plan of them.
func TestPlansAreNewMemory(t *testing.T) {
	for _, ps := range sets() {
		mine := roomyPromises(ps)
		before := whole(mine)
		first, _ := plan.Make(mine...)
		second, _ := plan.Make(mine...)
		want, _ := plan.Make(ps...)
		scrawlPlan(first)
		if after := whole(mine); !reflect.DeepEqual(after, before) {
			t.Errorf("writing into a plan turned the promises %+v into %+v", before, after)
		}
		if !samePlan(second, want) {
			t.Errorf("writing into a plan of %+v turned another one into %+v", ps, second)
		}
		scrawl(second.Batches[len(second.Batches):], full())
		for _, b := range second.Batches {
			scrawl(b.Reqs[len(b.Reqs):], keep(-7))
		}
		if !samePlan(second, want) {
			t.Errorf("writing behind the ends of a plan of %+v turned it into %+v", ps, second)
		}
	}
}

// No two lists of one plan share memory, even if all votes share their requests:
// whoever writes into one leaves the others.
func TestListsOfAPlanAreApart(t *testing.T) {
	b := given(1)
	var votes []api.Vote
	for slot := 4; slot <= 12; slot++ {
		votes = append(votes, vote(slot, 2, b))
	}
	for at := range 9 {
		x, _ := plan.Make(told(0, 3, votes...), told(1, 3, votes...), told(2, 3, votes...))
		scrawl(x.Batches[at].Reqs, keep(-7))
		for i, other := range x.Batches {
			if i != at && !sameBatch(other, given(1)) {
				t.Errorf("writing into batch %d turned batch %d into %+v", at, i, other)
			}
		}
	}
	if !sameBatch(b, given(1)) {
		t.Errorf("the batch became %+v", b)
	}
}
