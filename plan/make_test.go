package plan_test

import (
	"math/rand"
	"testing"

	"padlock/api"
	"padlock/batch"
	"padlock/plan"
)

// 16.2: Make, and how it ends

func TestMakeOfNoPromises(t *testing.T) {
	wantCode(t, nil, api.ErrNone)
	wantCode(t, []api.Promise{}, api.ErrNone)
	wantCode(t, make([]api.Promise, 0, 5), api.ErrNone)
}

// several returns count promises that may be made a plan of.
func several(count int) []api.Promise {
	var all []api.Promise
	for from := range count {
		all = append(all, told(from, 2+from%3, row(2+from%3, from)...))
	}
	return all
}

// One that is not well-formed, at each place, and one after the other at all places.
func TestMakeOfWhatIsNotWellFormed(t *testing.T) {
	for count := 1; count <= 7; count++ {
		for at := range count {
			for _, p := range faulty(at) {
				ps := several(count)
				wantPlan(t, ps, made(ps))
				ps[at] = p
				wantCode(t, ps, api.ErrArg)
			}
			for _, from := range append(off(), 7, 8, 256, api.High) {
				ps := several(count)
				ps[at].From = from
				wantCode(t, ps, api.ErrArg)
			}
		}
		ps := several(count)
		for at := range ps {
			ps[at].Time = -1
			wantCode(t, ps, api.ErrArg)
		}
	}
}

// Two with the same From, at each pair of places, be they alike or not.
func TestMakeOfTwins(t *testing.T) {
	for count := 2; count <= 7; count++ {
		for a := range count {
			for b := range a {
				ps := several(count)
				ps[a].From = ps[b].From
				wantCode(t, ps, api.ErrArg)
				ps = several(count)
				ps[b] = ps[a]
				wantCode(t, ps, api.ErrArg)
			}
		}
	}
}

// Two with the same From, in each order among up to five, and for each From.
func TestMakeOfTwinsInAllOrders(t *testing.T) {
	for from := range 7 {
		wantCode(t, []api.Promise{{From: from}, {From: from}}, api.ErrArg)
		wantPlans(t, []api.Promise{{From: from}, {From: (from + 1) % 7}}, plan.Plan{})
	}
	for from := range 4 {
		inAllOrders(append(several(4), told(from, 3)), func(ps []api.Promise) { wantCode(t, ps, api.ErrArg) })
	}
}

// More promises than there may be replicas: two of them have the same From.
func TestMakeOfTooMany(t *testing.T) {
	wantPlan(t, several(7), made(several(7)))
	for from := range 7 {
		for at := range 8 {
			ps := append(several(7), api.Promise{})
			copy(ps[at+1:], ps[at:])
			ps[at] = told(from, 4)
			wantCode(t, ps, api.ErrArg)
		}
	}
	wantCode(t, append(several(7), told(7, 4)), api.ErrArg)
}

// Both faults at once, by two promises of three, and by twins that are both not well-formed.
func TestMakeOfBothFaults(t *testing.T) {
	for _, bad := range faulty(1) {
		inAllOrders([]api.Promise{bad, told(0, 3), told(0, 2)}, func(ps []api.Promise) { wantCode(t, ps, api.ErrArg) })
		inAllOrders([]api.Promise{bad, told(1, 3), told(0, 2)}, func(ps []api.Promise) { wantCode(t, ps, api.ErrArg) })
		wantCode(t, []api.Promise{bad, bad}, api.ErrArg)
	}
	wantCode(t, []api.Promise{{From: 7}, {From: 7}}, api.ErrArg)
	wantCode(t, []api.Promise{{From: -1}, {From: -1}}, api.ErrArg)
}

// 16.2: the plan of one promise

func TestMakeOfOne(t *testing.T) {
	wantPlan(t, []api.Promise{{}}, plan.Plan{})
	for from := range 7 {
		for _, done := range edges {
			for _, time := range edges {
				p := api.Promise{From: from, Done: done, Tip: tip(time, done), Time: time}
				wantPlan(t, []api.Promise{p}, plan.Plan{Done: done, Tip: tip(time, done), Time: time, End: tip(time, done), Last: time})
			}
		}
	}
}

func TestMakeOfOneWithVotes(t *testing.T) {
	x, y := behind(tip(4, 5), 5, 33, keep(1)), behind(tip(5, 7), 2, 44, keep(2), keep(3))
	p := api.Promise{From: 2, Done: 6, Tip: tip(4, 5), Time: 30, Votes: []api.Vote{vote(7, 5, x), vote(8, 0, y)}}
	want := plan.Plan{Done: 6, Tip: tip(4, 5), Time: 30, Batches: []api.Batch{x, y}, End: tip(2, 8), Last: 44}
	wantPlan(t, []api.Promise{p}, want)
	p.Time, want.Time, want.Last = 40, 40, 44
	wantPlan(t, []api.Promise{p}, want)
	p.Time, want.Time, want.Last = 44, 44, 44
	wantPlan(t, []api.Promise{p}, want)
	p.Time, want.Time, want.Last = 50, 50, 50
	wantPlan(t, []api.Promise{p}, want)
	p.Tip, want.Tip, want.End = tip(4, 6), tip(4, 6), tip(4, 6)
	wantPlan(t, []api.Promise{p}, want)
	p.Tip, want.Tip, want.End = tip(5, 7), tip(5, 7), tip(2, 8)
	wantPlan(t, []api.Promise{p}, want)
}

// Each batch that may be is taken over as it is, in each slot, with a vote of any ballot.
func TestMakeOfEachBatch(t *testing.T) {
	for _, b := range wellFormed() {
		for past := 1; past <= 9; past++ {
			for _, ballot := range edges {
				ps := []api.Promise{told(3, 5, vote(5+past, ballot, b))}
				want := plan.Plan{Done: 5, Tip: tip(4, 5), Time: 33, Batches: make([]api.Batch, past), End: tip(4, 5), Last: 33}
				for i := range want.Batches {
					want.Batches[i] = fill()
				}
				want.Batches[past-1] = b
				wantPlan(t, ps, want)
			}
		}
	}
}

// All sets of the nine slots behind Done: a Fill is where there is no vote, up to
// the last vote and no further.
func TestMakeOfAllSetsOfSlots(t *testing.T) {
	for _, done := range []int{0, 3, api.High - 9} {
		for set := range 1 << 9 {
			p, want := told(1, done), []api.Batch(nil)
			for i := range 9 {
				if set>>i&1 == 1 {
					p.Votes = append(p.Votes, vote(done+1+i, i, given(i)))
					want = append(want, given(i))
				} else if set>>i > 0 {
					want = append(want, fill())
				}
			}
			wantPlan(t, []api.Promise{p}, plan.Plan{Done: done, Tip: p.Tip, Time: p.Time, Batches: want, End: p.Tip, Last: p.Time})
		}
	}
}

// 16.2: Done, Tip and Time

// Of several with the same Done, the one with the least From tells Tip and Time,
// be they less or greater than those of others.
func TestMakeOfTheSameDone(t *testing.T) {
	for _, tips := range [][3]api.Tip{
		{tip(1, 1), tip(2, 2), tip(3, 3)},
		{tip(3, 3), tip(2, 2), tip(1, 1)},
		{tip(2, 9), tip(9, 2), tip(0, 0)},
		{tip(0, 0), tip(api.High, api.High), tip(4, 4)},
	} {
		for _, times := range [][3]int{{1, 2, 3}, {3, 2, 1}, {0, api.High, 7}, {api.High, 0, 7}} {
			for _, froms := range [][3]int{{0, 1, 2}, {4, 5, 6}, {0, 3, 6}, {1, 2, 5}} {
				var ps []api.Promise
				for i := range 3 {
					ps = append(ps, api.Promise{From: froms[i], Done: 4, Tip: tips[i], Time: times[i]})
				}
				wantPlans(t, ps, plan.Plan{Done: 4, Tip: tips[0], Time: times[0], End: tips[0], Last: times[0]})
			}
		}
	}
}

// A greater Done counts for more than a lesser From, a greater Tip or a greater Time.
func TestMakeOfTheGreatestDone(t *testing.T) {
	for from := range 7 {
		for _, done := range []int{1, 2, 9, 10, 100, api.High - 1, api.High} {
			var ps []api.Promise
			for other := range 7 {
				ps = append(ps, api.Promise{From: other, Done: done - 1, Tip: tip(90, 90), Time: 90})
			}
			ps[from] = api.Promise{From: from, Done: done, Tip: tip(8, 7), Time: 6}
			want := plan.Plan{Done: done, Tip: tip(8, 7), Time: 6, End: tip(8, 7), Last: 6}
			for range 7 {
				ps = append(ps[1:], ps[0])
				wantPlan(t, ps, want)
			}
		}
	}
	a := api.Promise{From: 0, Done: 3, Tip: tip(1, 2), Time: 50}
	b := api.Promise{From: 5, Done: 7, Tip: tip(1, 6), Time: 40}
	c := api.Promise{From: 3, Done: 7, Tip: tip(1, 7), Time: 30}
	d := api.Promise{From: 1, Done: 6, Tip: tip(9, 9), Time: 60}
	wantPlans(t, []api.Promise{a, b, c, d}, plan.Plan{Done: 7, Tip: tip(1, 7), Time: 30, End: tip(1, 7), Last: 30})
}

// A Done that is greater than the slots of some of another's votes, and of all.
func TestMakeOfVotesThatAreDone(t *testing.T) {
	for done := range 20 {
		var want []api.Batch
		for i := done; i < 9; i++ {
			want = append(want, given(i))
		}
		x := plan.Plan{Done: done, Tip: tip(8, done), Time: 5, Batches: want, End: tip(8, done), Last: 5}
		newer := api.Promise{From: 4, Done: done, Tip: tip(8, done), Time: 5}
		older := told(6, 0, row(0, 9)...)
		wantPlans(t, []api.Promise{newer, older}, x)
		if done > 0 {
			older.From = 2
			wantPlans(t, []api.Promise{newer, older}, x)
			older.Votes = older.Votes[:min(done, 9)]
			x.Batches = nil
			wantPlans(t, []api.Promise{newer, older}, x)
		}
	}
}

// What an older promise has for the slots that are done has no effect, even with
// a greater ballot than all others; what it has behind them does.
func TestMakeOfOlderPromises(t *testing.T) {
	a := told(0, 2, vote(3, 90, given(1)), vote(4, 90, given(2)), vote(6, 3, given(3)), vote(11, 1, given(4)))
	b := told(1, 4, vote(5, 1, given(5)), vote(6, 4, given(6)), vote(8, 0, given(7)))
	c := told(2, 3, vote(4, 99, full()), vote(5, 2, given(8)), vote(8, 2, fill()))
	want := []api.Batch{given(8), given(6), fill(), fill(), fill(), fill(), given(4)}
	wantPlans(t, []api.Promise{a, b, c}, plan.Plan{Done: 4, Tip: tip(2, 4), Time: 13, Batches: want, End: tip(2, 4), Last: 13})
}

// 16.2: Batches

// Two votes for one slot: the greater ballot's batch, whoever has it, and of one
// ballot that of the least From. What the batches are has no effect.
func TestMakeOfTwoVotes(t *testing.T) {
	batches := []api.Batch{fill(), {}, given(1), given(9), full()}
	for _, slot := range []int{5, 9, 13} {
		for _, x := range batches {
			for _, y := range batches {
				for _, ballot := range edges {
					for _, other := range edges {
						a := told(2, 4, vote(slot, ballot, x))
						b := told(3, 4, vote(slot, other, y))
						want := x
						if other > ballot {
							want = y
						}
						wantLast(t, []api.Promise{a, b}, slot-4, want)
						wantLast(t, []api.Promise{b, a}, slot-4, want)
					}
				}
			}
		}
	}
}

// wantLast asks for so many batches, of which the last one is b.
func wantLast(t *testing.T, ps []api.Promise, count int, b api.Batch) {
	t.Helper()
	got, code := plan.Make(ps...)
	if code != api.OK || len(got.Batches) != count || !sameBatch(got.Batches[count-1], b) {
		t.Errorf("Make(%+v) = %+v, %d; want %d batches, the last one %+v", ps, got, code, count, b)
	}
}

// The same where one of the two has a lesser Done: this is not asked.
func TestMakeOfTwoVotesOfUnlikeDones(t *testing.T) {
	for done := range 9 {
		for ballot := range 5 {
			a := told(1, done, vote(9, ballot, given(1)))
			b := told(2, 8, vote(9, 2, given(2)))
			want := given(2)
			if ballot >= 2 {
				want = given(1)
			}
			wantLast(t, []api.Promise{a, b}, 1, want)
			wantLast(t, []api.Promise{b, a}, 1, want)
			a.From, b.From = 2, 1
			want = given(2)
			if ballot > 2 {
				want = given(1)
			}
			wantLast(t, []api.Promise{a, b}, 1, want)
			wantLast(t, []api.Promise{b, a}, 1, want)
		}
	}
}

// Up to seven votes for one slot in one ballot, in each order of the promises.
func TestMakeOfOneBallot(t *testing.T) {
	for least := range 5 {
		var ps []api.Promise
		for from := least; from < 7 && from < least+5; from++ {
			ps = append(ps, told(from, 4, vote(5, 3, given(from))))
		}
		inAllOrders(ps, func(ps []api.Promise) { wantLast(t, ps, 1, given(least)) })
		ps[len(ps)-1].Votes[0].Ballot = 4
		inAllOrders(ps, func(ps []api.Promise) { wantLast(t, ps, 1, given(least+len(ps)-1)) })
	}
}

// Each slot by itself: the ballots of one have no effect on another one.
func TestMakeOfManySlots(t *testing.T) {
	a := told(0, 3, vote(4, 9, given(1)), vote(5, 1, given(2)), vote(7, 2, given(3)), vote(12, 0, given(4)))
	b := told(4, 3, vote(4, 1, given(5)), vote(5, 9, given(6)), vote(8, 0, given(7)))
	c := told(6, 3, vote(5, 5, given(8)), vote(7, 3, given(9)), vote(8, 0, given(10)), vote(9, 7, fill()))
	want := []api.Batch{given(1), given(6), fill(), given(9), given(7), fill(), fill(), fill(), given(4)}
	wantPlans(t, []api.Promise{a, b, c}, plan.Plan{Done: 3, Tip: tip(1, 3), Time: 3, Batches: want, End: tip(1, 3), Last: 3})
}

// A vote for a Fill is a vote: it is taken over in the place of a lesser ballot's
// batch, and counts for where the batches end.
func TestMakeOfFills(t *testing.T) {
	a := told(0, 3, vote(4, 1, given(1)), vote(5, 1, given(2)))
	b := told(1, 3, vote(4, 2, fill()), vote(5, 0, fill()), vote(8, 0, fill()))
	want := []api.Batch{fill(), given(2), fill(), fill(), fill()}
	wantPlans(t, []api.Promise{a, b}, plan.Plan{Done: 3, Tip: tip(1, 3), Time: 3, Batches: want, End: tip(1, 3), Last: 3})
}

// Slots at the end of what there may be.
func TestMakeNearHigh(t *testing.T) {
	at := tip(7, api.High)
	wantPlan(t, []api.Promise{{Done: api.High, Tip: at, Time: 4}}, plan.Plan{Done: api.High, Tip: at, Time: 4, End: at, Last: 4})
	for done := api.High - 9; done < api.High; done++ {
		p := api.Promise{From: 1, Done: done, Tip: tip(7, 2), Time: 4}
		want := plan.Plan{Done: done, Tip: tip(7, 2), Time: 4, End: tip(api.High, api.High), Last: api.High}
		for slot := done + 1; slot < api.High; slot++ {
			want.Batches = append(want.Batches, fill())
		}
		b := behind(tip(7, 2), api.High, api.High, full().Reqs...)
		want.Batches = append(want.Batches, b)
		p.Votes = []api.Vote{vote(api.High, api.High, b)}
		wantPlan(t, []api.Promise{p}, want)
		wantPlans(t, []api.Promise{p, told(0, api.High-10), told(2, done)}, want)
		whole := api.Promise{From: 0, Done: api.High, Tip: at, Time: 4}
		wantPlans(t, []api.Promise{p, whole}, plan.Plan{Done: api.High, Tip: at, Time: 4, End: at, Last: 4})
	}
}

// 16.2: End and Last

// Batches that are valid behind one another, and such that are not.
func TestMakeOfChains(t *testing.T) {
	a := api.Promise{From: 0, Done: 6, Tip: tip(4, 5), Time: 30, Votes: []api.Vote{
		vote(7, 5, behind(tip(4, 5), 5, 33, keep(1))), // valid
		vote(8, 5, behind(tip(4, 5), 5, 99)),          // not: behind what was valid before slot 7
		vote(9, 5, behind(tip(5, 7), 5, 20)),          // valid, its Time less
		vote(12, 5, behind(tip(5, 9), 3, 44)),         // valid behind two Fills, its View less
		vote(13, 5, behind(tip(5, 12), 5, 99)),        // not: of another view
	}}
	b := api.Promise{From: 1, Done: 5, Tip: tip(4, 5), Time: 90, Votes: []api.Vote{
		vote(6, 9, behind(tip(4, 5), 9, 95)), // done already
		vote(14, 4, behind(tip(3, 12), 4, 44)),
	}}
	want := plan.Plan{Done: 6, Tip: tip(4, 5), Time: 30, Batches: []api.Batch{
		a.Votes[0].Batch, a.Votes[1].Batch, a.Votes[2].Batch, fill(), fill(), a.Votes[3].Batch, a.Votes[4].Batch,
	}, End: tip(3, 12), Last: 44}
	wantPlan(t, []api.Promise{a}, want)
	want.Batches, want.End = append(want.Batches, b.Votes[1].Batch), tip(4, 14)
	wantPlans(t, []api.Promise{a, b}, want)
	// A greater ballot makes the chain another one.
	c := api.Promise{From: 2, Done: 6, Tip: tip(0, 1), Votes: []api.Vote{vote(7, 6, fill())}}
	want.Batches[0], want.Batches[1] = fill(), a.Votes[1].Batch
	want.End, want.Last = tip(5, 8), 99
	wantPlans(t, []api.Promise{a, b, c}, want)
}

// Long chains, of which each one breaks at one place: End is at the place before it.
func TestMakeOfBrokenChains(t *testing.T) {
	for broken := range 10 {
		p := api.Promise{From: 3, Done: 20, Tip: tip(2, 18), Time: 100}
		want := plan.Plan{Done: 20, Tip: tip(2, 18), Time: 100, End: tip(2, 18), Last: 100}
		end := tip(2, 18)
		for i := range 9 {
			slot := 21 + i
			b := behind(end, 3+i, 101+i, keep(i%8))
			if i == broken {
				b.Tip.View++
			}
			if i < broken {
				want.End, want.Last = tip(3+i, slot), 101+i
			}
			end = tip(3+i, slot)
			p.Votes = append(p.Votes, vote(slot, 3+i, b))
			want.Batches = append(want.Batches, b)
		}
		wantPlan(t, []api.Promise{p}, want)
	}
}

// anyTip returns a tip that is likely to be one of the row's.
func anyTip(r *rand.Rand, done int) api.Tip {
	return tip(r.Intn(2), done+r.Intn(4))
}

// anyPromises returns up to seven promises in any order, whose votes are near to
// each other, with few ballots, and with batches that are often valid.
func anyPromises(r *rand.Rand) []api.Promise {
	start := []int{0, 0, 1, 50, api.High - 12, api.High - 3}[r.Intn(6)]
	var all []api.Promise
	for _, from := range r.Perm(7)[:1+r.Intn(7)] {
		p := api.Promise{From: from, Done: min(start+r.Intn(1+r.Intn(12)), api.High), Time: r.Intn(9)}
		p.Tip = anyTip(r, start)
		for slot := p.Done + 1; slot <= min(p.Done+9, api.High); slot++ {
			if r.Intn(3) > 0 {
				p.Votes = append(p.Votes, vote(slot, r.Intn(4), anyBatch(r, start)))
			}
		}
		all = append(all, p)
	}
	return all
}

func anyBatch(r *rand.Rand, start int) api.Batch {
	if r.Intn(5) == 0 {
		return fill()
	}
	b := behind(anyTip(r, start), r.Intn(2), r.Intn(20))
	for _, client := range r.Perm(8)[:r.Intn(4)] {
		b.Reqs = append(b.Reqs, keep(client))
	}
	return b
}

// Any promises, held against the words of 16.2, and End and Last against batch.Walk.
func TestMakeOfAnything(t *testing.T) {
	r := rand.New(rand.NewSource(2))
	walked, empty := 0, 0
	for range 20000 {
		ps := anyPromises(r)
		x := made(ps)
		wantPlan(t, ps, x)
		got, _ := plan.Make(ps...)
		end, last := batch.Walk(got.Tip, got.Time, got.Done+1, got.Batches...)
		if got.End != end || got.Last != last {
			t.Errorf("the plan %+v ends with %v and %d; Walk with %v and %d", got, got.End, got.Last, end, last)
		}
		if got.End != got.Tip {
			walked++
		}
		if len(got.Batches) == 0 {
			empty++
		}
	}
	if walked < 1000 || empty < 100 {
		t.Errorf("%d plans went on from their tips, and %d had no batches", walked, empty)
	}
}
