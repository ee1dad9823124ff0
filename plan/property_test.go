package plan_test

import (
	"math/bits"
	"math/rand"
	"slices"
	"testing"

	"padlock/accept"
	"padlock/api"
	"padlock/plan"
)

// 16.3: the order of the promises has no influence.
func TestOrdersOfPromises(t *testing.T) {
	r := rand.New(rand.NewSource(4))
	counts := [8]int{}
	for range 400 {
		ps := anyPromises(r)
		if counts[len(ps)]++; len(ps) >= 6 && counts[len(ps)] > 5 {
			continue // so many orders have been tried often enough
		}
		first, code := plan.Make(ps...)
		if code != api.OK {
			t.Fatalf("Make(%+v) ends with code %d", ps, code)
		}
		wantPlans(t, ps, first)
	}
	for count := 1; count <= 7; count++ {
		if counts[count] < 5 {
			t.Errorf("%d sets had %d promises", counts[count], count)
		}
	}
}

// The same of promises of which there is no plan.
func TestOrdersOfWhatMayNotBe(t *testing.T) {
	r := rand.New(rand.NewSource(5))
	for range 100 {
		ps := anyPromises(r)
		ps = ps[:min(len(ps), 5)]
		if len(ps) > 1 && r.Intn(2) == 0 {
			ps[0].From = ps[1].From
		} else {
			ps[0] = faulty(ps[0].From)[r.Intn(11)]
		}
		inAllOrders(ps, func(ps []api.Promise) { wantCode(t, ps, api.ErrArg) })
	}
}

// 16.3: what a quorum has voted for in one ballot

// quorum is how many replicas of n are a quorum, at least.
var quorum = [8]int{1: 1, 2: 2, 3: 2, 4: 3, 5: 3, 6: 4, 7: 4}

// groups calls do with each group of the promises that is a quorum of n replicas.
func groups(ps []api.Promise, do func(ps []api.Promise)) {
	for set := range 1 << len(ps) {
		if bits.OnesCount(uint(set)) < quorum[len(ps)] {
			continue
		}
		var group []api.Promise
		for i, p := range ps {
			if set>>i&1 == 1 {
				group = append(group, p)
			}
		}
		do(group)
	}
}

// wantContained asks for b in slot in the plan of ps, or for a Done that includes slot.
func wantContained(t *testing.T, ps []api.Promise, slot int, b api.Batch) {
	t.Helper()
	x, code := plan.Make(ps...)
	if code != api.OK {
		t.Fatalf("Make(%+v) ends with code %d", ps, code)
	}
	at := slot - x.Done - 1
	if at >= 0 && (at >= len(x.Batches) || !sameBatch(x.Batches[at], b)) {
		t.Fatalf("the plan %+v of %+v does not have %+v in slot %d", x, ps, b, slot)
	}
}

// One slot: a quorum has voted for a batch, and all others have votes with lesser
// ballots for other ones, or none.
func TestVotesOfOneSlot(t *testing.T) {
	for n := 1; n <= 7; n++ {
		for set := range 1 << n {
			if bits.OnesCount(uint(set)) < quorum[n] {
				continue
			}
			var ps []api.Promise
			for from := range n {
				p := told(from, 3+from%2)
				switch {
				case set>>from&1 == 1:
					p.Votes = []api.Vote{vote(7, 5, given(9))}
				case from%3 < 2:
					p.Votes = []api.Vote{vote(7, 4-from%3, given(from)), vote(8, 8, given(from))}
				}
				ps = append(ps, p)
			}
			groups(ps, func(ps []api.Promise) { wantContained(t, ps, 7, given(9)) })
		}
	}
}

// cluster is a history of acceptors and of leaders that make plans of their
// promises. Any step may come at any time, and nothing that was sent is sure to
// arrive: leaders of lesser ballots go on, too.
type cluster struct {
	r         *rand.Rand
	acceptors []*accept.Acceptor
	leaders   []*leader
	voters    map[ballotOf]map[int]bool
	chosen    map[int]api.Batch
	made      int // batches
}

type ballotOf struct{ ballot, slot int }

// leader is one that asks for promises, and then leads.
type leader struct {
	ballot   int
	promises []api.Promise
	leads    bool
	slots    map[int]api.Batch
	next     int
	end      api.Tip
	last     int
}

func newCluster(r *rand.Rand, n int) *cluster {
	c := &cluster{r: r, voters: map[ballotOf]map[int]bool{}, chosen: map[int]api.Batch{}}
	for range n {
		c.acceptors = append(c.acceptors, accept.New())
	}
	return c
}

// promiseOf returns what the acceptor tells of itself: Tip and Time are those
// behind the chosen batches that are done.
func (c *cluster) promiseOf(from int) api.Promise {
	a := c.acceptors[from]
	p := api.Promise{From: from, Done: a.Done(), Votes: a.Votes()}
	for slot := 1; slot <= p.Done; slot++ {
		if b := c.chosen[slot]; !b.Fill && b.Tip == p.Tip {
			p.Tip, p.Time = tip(b.View, slot), max(p.Time, b.Time)
		}
	}
	return p
}

func (c *cluster) begin() {
	c.leaders = append(c.leaders, &leader{ballot: len(c.leaders) + 1, slots: map[int]api.Batch{}})
}

// ask lets one of the acceptors promise, and the leader lead if that makes a quorum.
func (c *cluster) ask(t *testing.T, l *leader) {
	t.Helper()
	from := c.r.Intn(len(c.acceptors))
	twice := slices.ContainsFunc(l.promises, func(p api.Promise) bool { return p.From == from })
	if l.leads || twice || c.acceptors[from].Promise(l.ballot) != api.OK {
		return
	}
	l.promises = append(l.promises, c.promiseOf(from))
	if len(l.promises) < quorum[len(c.acceptors)] {
		return
	}
	x, code := plan.Make(l.promises...)
	if code != api.OK {
		t.Fatalf("Make(%+v) ends with code %d", l.promises, code)
	}
	l.leads, l.next, l.end, l.last = true, x.Done+1, x.End, x.Last
	for _, b := range x.Batches {
		l.slots[l.next] = b
		l.next++
	}
}

// add gives the next slot a batch that was not there before.
func (c *cluster) add(l *leader) {
	if !l.leads {
		return
	}
	c.made++
	b := behind(l.end, l.ballot, l.last+c.r.Intn(5)-2, api.Req{Client: c.made % 8, Seq: c.made, Cmd: api.Cmd{Kind: api.Open}})
	b.Time = max(b.Time, 0)
	l.slots[l.next] = b
	l.end, l.last = tip(l.ballot, l.next), max(l.last, b.Time)
	l.next++
}

// propose lets one of the acceptors vote for one of the leader's slots.
func (c *cluster) propose(t *testing.T, l *leader) {
	t.Helper()
	from := c.r.Intn(len(c.acceptors))
	slot := c.acceptors[from].Done() + 1 + c.r.Intn(4)
	b, ok := l.slots[slot]
	if !ok || c.acceptors[from].Accept(l.ballot, slot, b) != api.OK {
		return
	}
	in := ballotOf{l.ballot, slot}
	if c.voters[in] == nil {
		c.voters[in] = map[int]bool{}
	}
	c.voters[in][from] = true
	if len(c.voters[in]) < quorum[len(c.acceptors)] {
		return
	}
	if other, ok := c.chosen[slot]; ok && !sameBatch(other, b) {
		t.Fatalf("in slot %d, both %+v and %+v are chosen", slot, other, b)
	}
	c.chosen[slot] = b
}

// trim lets one of the acceptors be done with some of what is chosen.
func (c *cluster) trim() {
	a := c.acceptors[c.r.Intn(len(c.acceptors))]
	done := a.Done()
	for range c.r.Intn(12) {
		if _, ok := c.chosen[done+1]; ok {
			done++
		}
	}
	a.Trim(done)
}

// step does anything, and tells whether the votes are others then.
func (c *cluster) step(t *testing.T) bool {
	t.Helper()
	if len(c.leaders) == 0 || c.r.Intn(40) == 0 {
		c.begin()
	}
	l := c.leaders[len(c.leaders)-1]
	if c.r.Intn(3) == 0 {
		l = c.leaders[c.r.Intn(len(c.leaders))]
	}
	switch c.r.Intn(12) {
	case 0, 1:
		c.ask(t, l)
	case 2:
		c.add(l)
	case 3:
		c.trim()
		return true
	default:
		c.propose(t, l)
		return true
	}
	return false
}

// wantChosen asks for all that was ever chosen in the plans of all quorums.
func (c *cluster) wantChosen(t *testing.T) {
	t.Helper()
	var ps []api.Promise
	for from := range c.acceptors {
		ps = append(ps, c.promiseOf(from))
	}
	groups(ps, func(ps []api.Promise) {
		for slot, b := range c.chosen {
			wantContained(t, ps, slot, b)
		}
	})
}

// What a quorum has voted for in one ballot stays in the plans of all quorums,
// at each time, and is the only batch that is chosen in its slot.
func TestChosenBatchesStay(t *testing.T) {
	chosen, again, late := 0, 0, 0
	for seed := range int64(140) {
		c := newCluster(rand.New(rand.NewSource(seed)), 1+int(seed)%7)
		for at := range 600 {
			if c.step(t) && at%8 == 0 {
				c.wantChosen(t)
			}
		}
		c.wantChosen(t)
		chosen += len(c.chosen)
		ballots := map[int]int{}
		for in, who := range c.voters {
			if len(who) >= quorum[len(c.acceptors)] {
				ballots[in.slot]++
			}
			if b, ok := c.chosen[in.slot]; ok && b.View < in.ballot {
				late++
			}
		}
		for _, count := range ballots {
			again += count - 1
		}
	}
	if chosen < 1000 || again < 100 || late < 300 {
		t.Errorf("%d batches were chosen, %d again, and %d were voted for in later ballots", chosen, again, late)
	}
}
