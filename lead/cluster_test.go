package lead_test

import (
	"math/rand"
	"testing"

	"padlock/accept"
	"padlock/api"
	"padlock/batch"
	"padlock/lead"
	"padlock/learn"
)

// cluster is a history of replicas that lead, promise, vote and learn. Any step
// may come at any time; what was sent may arrive late, more than once, or never.
type cluster struct {
	r        *rand.Rand
	replicas []*replica
	away     int // who is neither asked nor proposed to, for a while
	promises []sent[api.Promise]
	votes    []sent[api.Vote] // from is who voted
	given    map[place]api.Batch
	chosen   map[int]api.Vote // and in which ballot, as the first one knew it
	counts   counts
}

// replica is one of them. tip and time are those behind what it is done with.
type replica struct {
	view     int
	lead     *lead.Lead
	acceptor *accept.Acceptor
	learner  *learn.Learner
	done     int
	tip      api.Tip
	time     int
	ledIn    int // the view in which it led last
}

type sent[T any] struct {
	from, view int
	what       T
}

type place struct{ view, slot int }

// counts tell how often a Lead led, and how often it did in a view in which it
// led before; how many slots were taken over (of the last three each time) and
// added; and how many chosen batches the replicas went on by, and how many of
// these were not valid.
type counts struct{ led, again, taken, added, ran, void int }

func newCluster(r *rand.Rand, n int) *cluster {
	c := &cluster{r: r, away: n, given: map[place]api.Batch{}, chosen: map[int]api.Vote{}}
	for range n {
		c.replicas = append(c.replicas, &replica{lead: lead.New(n), acceptor: accept.New(), learner: learn.New(n), ledIn: -1})
	}
	return c
}

// anyOf returns one of the replicas, and its number.
func (c *cluster) anyOf() (int, *replica) {
	i := c.r.Intn(len(c.replicas))
	return i, c.replicas[i]
}

// leader returns the one that leads the greatest view, or at times any other one.
func (c *cluster) leader() (int, *replica) {
	view := 0
	for _, x := range c.replicas {
		view = max(view, x.view)
	}
	if at := view % len(c.replicas); c.r.Intn(3) > 0 {
		return at, c.replicas[at]
	}
	return c.anyOf()
}

// enter lets x go on to a greater view, in which it does not lead yet.
func (x *replica) enter(view int) {
	if view > x.view {
		x.view = view
		x.lead.Stop()
	}
}

// promise returns what x tells of itself.
func (x *replica) promise(from int) api.Promise {
	return api.Promise{From: from, Done: x.done, Tip: x.tip, Time: x.time, Votes: x.acceptor.Votes()}
}

// elect lets one of the replicas go on to a view that it leads.
func (c *cluster) elect() {
	at, x := c.anyOf()
	view := x.view + 1
	for view%len(c.replicas) != at {
		view++
	}
	x.enter(view)
}

// begin lets the leader x of its view ask for promises. It hears its own first.
func (c *cluster) begin(t *testing.T, at int, x *replica) {
	t.Helper()
	if x.view%len(c.replicas) != at || x.lead.Phase() != 0 {
		return
	}
	wantBegin(t, x.lead, x.view, api.OK)
	x.acceptor.Promise(x.view)
	c.hear(t, x, x.promise(at))
}

// hear lets x hear a promise. When it leads, each slot for which a batch was
// chosen in a lesser view has this one.
func (c *cluster) hear(t *testing.T, x *replica, p api.Promise) {
	t.Helper()
	if leads, _ := x.lead.Hear(p); !leads {
		return
	}
	c.wantSlots(t, x)
	c.counts.led++
	if x.ledIn == x.view {
		c.counts.again++
	}
	x.ledIn = x.view
	c.counts.taken += len(x.lead.Slots(x.lead.Next() - 4))
	for slot, old := range c.chosen {
		if old.Ballot >= x.view {
			continue
		}
		open := x.lead.Slots(slot - 1)
		if slot >= x.lead.Next() || len(open) > 0 && open[0].Slot == slot && !sameBatch(open[0].Batch, old.Batch) {
			t.Fatalf("view %d has %+v, and then Next %d; chosen is %+v", x.view, open, x.lead.Next(), old)
		}
	}
}

// ask lets one of the replicas promise the view of x.
func (c *cluster) ask(x *replica) {
	from, y := c.anyOf()
	if from != c.away && x.lead.Phase() == 1 && x.view >= y.view {
		y.enter(x.view)
		y.acceptor.Promise(x.view)
		c.promises = append(c.promises, sent[api.Promise]{from, x.view, y.promise(from)})
	}
}

// answer delivers one of the promises that x asks for, or asked for before it
// began again.
func (c *cluster) answer(t *testing.T, x *replica) {
	t.Helper()
	var all []api.Promise
	for _, p := range c.promises {
		if p.view == x.view {
			all = append(all, p.what)
		}
	}
	if x.lead.Phase() == 1 && len(all) > 0 {
		c.hear(t, x, all[c.r.Intn(len(all))])
	}
}

// add gives the leader x a new batch, which is valid behind its slots.
func (c *cluster) add(t *testing.T, x *replica) {
	t.Helper()
	before, _ := x.lead.Last()
	slot, code := x.lead.Add(x.done, c.r.Intn(500), keeps(c.r.Intn(4))...)
	if code != api.OK {
		return
	}
	c.counts.added++
	b := x.lead.Slots(slot - 1)[0].Batch
	if end, _ := x.lead.Last(); !batch.Valid(before, b) || end != tip(x.view, slot) {
		t.Fatalf("%+v is added in slot %d behind %v, and Last becomes %v", b, slot, before, end)
	}
	c.wantSlots(t, x)
}

// wantSlots asks that x gives each slot the batch that it ever gave it in this view.
func (c *cluster) wantSlots(t *testing.T, x *replica) {
	t.Helper()
	for done := max(0, x.lead.Next()-15); done < x.lead.Next(); done++ {
		for _, v := range x.lead.Slots(done) {
			in := place{v.Ballot, v.Slot}
			if b, ok := c.given[in]; ok && !sameBatch(b, v.Batch) {
				t.Fatalf("in view %d, slot %d has %+v, and then %+v", v.Ballot, v.Slot, b, v.Batch)
			}
			c.given[in] = v.Batch
		}
	}
}

// propose lets one of the replicas vote for one of the slots of the leader x.
func (c *cluster) propose(t *testing.T, x *replica) {
	t.Helper()
	from, y := c.anyOf()
	open := x.lead.Slots(x.done)
	if from == c.away || len(open) == 0 || x.view < y.view {
		return
	}
	c.wantSlots(t, x)
	v := open[c.r.Intn(len(open))]
	y.enter(x.view)
	if y.acceptor.Accept(v.Ballot, v.Slot, v.Batch) == api.OK {
		c.votes = append(c.votes, sent[api.Vote]{from, x.view, v})
	}
}

// learn lets one of the replicas hear some of the last votes, and go on.
func (c *cluster) learn(t *testing.T) {
	t.Helper()
	at, x := c.anyOf()
	if len(c.votes) == 0 || at == c.away {
		return
	}
	for range 4 {
		v := c.votes[max(0, len(c.votes)-1-c.r.Intn(20))]
		x.learner.Hear(v.from, v.what.Ballot, v.what.Slot, v.what.Batch)
	}
	for c.advance(t, x) {
	}
}

// advance lets x be done with the next slot, if it knows which batch is chosen.
func (c *cluster) advance(t *testing.T, x *replica) bool {
	t.Helper()
	slot := x.done + 1
	b, ok := x.learner.Chosen(slot)
	if !ok {
		return false
	}
	if old, ok := c.chosen[slot]; ok && !sameBatch(b, old.Batch) {
		t.Fatalf("in slot %d, both %+v and %+v are chosen", slot, b, old)
	} else if !ok {
		ballot, _ := x.learner.Heard(slot)
		c.chosen[slot] = vote(slot, ballot, b)
	}
	end, time := batch.Walk(x.tip, x.time, slot, b)
	if end == x.tip {
		c.counts.void++
	}
	c.counts.ran++
	x.trim(slot, end, time)
	return true
}

// trim lets x be done with more.
func (x *replica) trim(done int, end api.Tip, time int) {
	x.done, x.tip, x.time = done, end, time
	x.acceptor.Trim(done)
	x.learner.Trim(done)
	x.lead.Trim(done)
}

// restore lets one of the replicas, seldom the one that is away, be done with as
// much as another one is.
func (c *cluster) restore() {
	at, x := c.anyOf()
	_, y := c.anyOf()
	if y.done > x.done && (at != c.away || c.r.Intn(10) == 0) {
		x.trim(y.done, y.tip, y.time)
	}
}

// leave lets a leader be away, or nobody.
func (c *cluster) leave() {
	c.away = len(c.replicas)
	if at, x := c.anyOf(); x.lead.Phase() == 2 {
		c.away = at
	}
}

func (c *cluster) step(t *testing.T) {
	t.Helper()
	at, x := c.leader()
	switch n := c.r.Intn(1000); {
	case n < 3:
		c.elect()
	case n < 5:
		c.leave()
	case n < 30:
		c.restore()
	case n < 100:
		c.begin(t, at, x)
	case n < 200:
		c.ask(x)
	case n < 300:
		c.answer(t, x)
	case n < 450:
		c.add(t, x)
	case n < 700:
		c.propose(t, x)
	default:
		c.learn(t)
	}
}

// 17.4 over many runs: in one view each slot has one batch, even if a Lead stops
// and begins again in it; what is added is valid behind what is before it; and
// no two batches are chosen in one slot.
func TestClusters(t *testing.T) {
	var all counts
	for seed := range int64(140) {
		c := newCluster(rand.New(rand.NewSource(seed)), 1+int(seed)%7)
		for range 10000 {
			c.step(t)
		}
		all.led += c.counts.led
		all.again += c.counts.again
		all.taken += c.counts.taken
		all.added += c.counts.added
		all.ran += c.counts.ran
		all.void += c.counts.void
	}
	if all.led < 1000 || all.again < 5 || all.taken < 2000 || all.added < 5000 || all.ran < 10000 || all.void < 200 {
		t.Errorf("too little has happened: %+v", all)
	}
}

// A leader that learns that others are done with more than it ever gave stops.
// It may begin again in its view: with its own promise, and one that it was sent
// before that, it gives none of the slots that it gave a second batch.
func TestLeadAgainInOneView(t *testing.T) {
	stale := told(1, 2, row(2, 6, 4)...)
	l := leading(t, 3, 6, told(0, 2), stale)
	want := state{phase: 2, view: 6, heard: []int{0, 1}, next: 9, tip: tip(1, 2), time: 3}
	for i := range 6 {
		want.slots = append(want.slots, vote(3+i, 6, given(i)))
	}
	wantLead(t, l, want)
	for slot := 9; slot <= 11; slot++ {
		wantAdd(t, l, 8, 7, keeps(1), slot, api.OK)
		want = want.added(7, keeps(1)...)
	}
	l.Trim(11)
	wantLead(t, l, want.trimmed(11))
	l.Trim(12)
	wantLead(t, l, state{view: 6})
	wantBegin(t, l, 6, api.OK)
	wantHear(t, l, told(0, 12), false, api.OK)
	wantHear(t, l, stale, true, api.OK)
	want = state{phase: 2, view: 6, heard: []int{0, 1}, next: 13, tip: tip(1, 12), time: 3}
	wantLead(t, l, want)
	wantAdd(t, l, 12, 9, keeps(2), 13, api.OK)
	wantLead(t, l, want.added(9, keeps(2)...))
}
