package auto_test

import (
	"maps"
	"slices"
	"testing"

	"padlock/api"
	"padlock/auto"
)

// 10.5: what is right stays right, once is once, tokens never repeat, and who
// does not come for a lease is removed

// place is a request of a client, by its number.
type place struct{ client, seq int }

// owner is whom a token was given to.
type owner struct {
	name   string
	client int
}

// history is a state to which much is done, and what was seen of it: what it
// knows of sessions follows from what clients were told, and when they came.
type history struct {
	t      *testing.T
	s      state
	lease  int
	now    int
	opened int                 // sessions, by all that clients were told
	num    map[int]int         // the session of each client that has one
	last   map[int]int         // when that client came last
	told   map[place]api.Reply // what each request was told when it was executed
	newest map[int]int         // the greatest number that a client's requests had
	owners map[int]owner       // of each token that was seen
	latest map[string]int      // the last token of each lock
	waits  map[string]row      // who waits for each lock
}

func newHistory(t *testing.T, lease int) *history {
	return &history{
		t: t, lease: lease, num: map[int]int{}, last: map[int]int{}, told: map[place]api.Reply{},
		newest: map[int]int{}, owners: map[int]owner{}, latest: map[string]int{}, waits: map[string]row{},
	}
}

// copy returns a history that can go on in another way.
func (x *history) copy() *history {
	y := *x
	y.num, y.last, y.told, y.newest = maps.Clone(x.num), maps.Clone(x.last), maps.Clone(x.told), maps.Clone(x.newest)
	y.owners, y.latest, y.waits = maps.Clone(x.owners), maps.Clone(x.latest), maps.Clone(x.waits)
	return &y
}

// do lets a client send a request about a lock, with its next number, of the
// session that it was told of last.
func (x *history) do(client, kind int, name string) {
	x.t.Helper()
	r := askRightly(x.s, client, x.newest[client]+1, kind, name)
	if num, ok := x.num[client]; ok && kind != api.Open {
		r.Cmd.Session = num
	}
	x.ask(r)
}

// ask lets a request come, whether or not it came before.
func (x *history) ask(r api.Req) {
	x.t.Helper()
	before := x.s
	s, reply, ok := auto.Apply(before, r)
	if fresh := r.Seq > x.newest[r.Client]; ok != fresh {
		x.t.Errorf("request %v of %v is executed: %v; want %v", r, x.told, ok, fresh)
	}
	x.s = s
	if ok {
		x.newest[r.Client] = r.Seq
		x.told[place{r.Client, r.Seq}] = reply
		x.hear(r, reply)
		x.see(before)
		return
	}
	want := api.Reply{}
	if r.Seq == x.newest[r.Client] {
		want = x.told[place{r.Client, r.Seq}]
	}
	if !sameReply(reply, want) || !same(s, before) {
		x.t.Errorf("request %v comes again: %v, and the state goes from %v to %v; want %v", r, reply, before, s, want)
	}
}

// hear takes down what a request that was executed says of its client's session.
func (x *history) hear(r api.Req, reply api.Reply) {
	x.t.Helper()
	num, has := x.num[r.Client]
	switch {
	case r.Cmd.Kind == api.Open && reply.Code == api.OK:
		x.opened++
		if has || reply.Session != x.opened {
			x.t.Errorf("client %d, which has %d, opened the session %d, number %d of all", r.Client, num, reply.Session, x.opened)
		}
		x.num[r.Client], x.last[r.Client] = reply.Session, x.now
	case r.Cmd.Kind == api.Open:
		if has != (reply.Code == api.ErrTwice) || !has && len(x.num) < 5 {
			x.t.Errorf("client %d, of the sessions %v, is told %v", r.Client, x.num, reply)
		}
	case has != (reply.Code != api.ErrSession):
		x.t.Errorf("client %d, of the sessions %v, is told %v for %v", r.Client, x.num, reply, r)
	case r.Cmd.Kind == api.Close:
		delete(x.num, r.Client)
	default:
		x.last[r.Client] = x.now
	}
}

// pass lets time pass: who did not come for a lease has no session any more.
func (x *history) pass(time int) {
	x.t.Helper()
	before := x.s
	x.s = auto.Advance(before, time, x.lease)
	x.now = max(x.now, time)
	var gone row
	for client := range 8 {
		if _, has := x.num[client]; has && x.now-x.last[client] >= x.lease {
			gone = append(gone, client)
			delete(x.num, client)
		}
	}
	if got := auto.Gone(before, x.s); !slices.Equal(got, gone) {
		x.t.Errorf("at %d, with the lease %d, clients that came at %v: %v are gone; want %v", x.now, x.lease, x.last, got, gone)
	}
	x.see(before)
}

// see holds the state to what was seen before.
func (x *history) see(before state) {
	x.t.Helper()
	if !auto.Right(x.s) {
		x.t.Errorf("%v, after %v, is not right", x.s, before)
	}
	if x.s.Time != x.now {
		x.t.Errorf("the time is %d; want %d", x.s.Time, x.now)
	}
	has := map[int]int{}
	for _, s := range x.s.Sessions {
		has[s.Client] = s.Num
	}
	if !maps.Equal(has, x.num) {
		x.t.Errorf("clients have the sessions %v; want %v", has, x.num)
	}
	waits := map[string]row{}
	for _, k := range x.s.Locks {
		x.seeLock(k, before.Token)
		waits[k.Name] = k.Line
	}
	x.waits = waits
}

// seeLock holds a lock to the tokens that were seen: one that is new was given
// by the last call, is greater than all of this lock before, and came to whom
// waited first of those who have a session yet.
func (x *history) seeLock(k api.Lock, given int) {
	x.t.Helper()
	if was, ok := x.owners[k.Token]; ok {
		if was != (owner{k.Name, k.Holder}) || x.latest[k.Name] != k.Token {
			x.t.Errorf("token %d, of %v, is that of %v", k.Token, was, k)
		}
		return
	}
	if k.Token <= given || k.Token > x.s.Token || k.Token <= x.latest[k.Name] {
		x.t.Errorf("%v has a new token, where the lock had %d, %d were given before, and %d now", k, x.latest[k.Name], given, x.s.Token)
	}
	for _, client := range x.waits[k.Name] {
		if _, has := x.num[client]; has {
			if client != k.Holder {
				x.t.Errorf("%v is granted, where %v waited and %v have sessions", k, x.waits[k.Name], x.num)
			}
			break
		}
	}
	x.owners[k.Token], x.latest[k.Name] = owner{k.Name, k.Holder}, k.Token
}

// steps returns all that few clients may do with one lock, and that time does.
func steps(clients ...int) []func(x *history) {
	var all []func(x *history)
	for _, client := range clients {
		for _, kind := range []int{api.Open, api.Keep, api.Take, api.Try, api.Free, api.Close} {
			all = append(all, func(x *history) { x.do(client, kind, "a") })
		}
		// The last one comes again, and the one before that.
		for ago := range 2 {
			all = append(all, func(x *history) {
				if seq := x.newest[client] - ago; seq > 0 {
					x.ask(askRightly(x.s, client, seq, api.Close, ""))
				}
			})
		}
	}
	for _, ticks := range []int{0, 1, 2} {
		all = append(all, func(x *history) { x.pass(x.now + ticks) })
	}
	return all
}

// All that two clients can do in a few steps, from nothing and from where they
// and a third one wait for each other.
func TestAllShortHistories(t *testing.T) {
	var walk func(x *history, left int)
	walk = func(x *history, left int) {
		if left == 0 || t.Failed() {
			return
		}
		for _, step := range steps(1, 4) {
			y := x.copy()
			step(y)
			walk(y, left-1)
		}
	}
	walk(newHistory(t, 3), 4)
	x := newHistory(t, 3)
	for _, client := range []int{6, 1, 4} {
		x.do(client, api.Open, "")
		x.do(client, api.Take, "a")
		x.do(client, api.Take, string(rune('a'+client)))
		x.pass(x.now + 1)
	}
	walk(x, 4)
}

// What many clients do in long histories, the choices by a short rule.
func TestLongHistories(t *testing.T) {
	kinds := []int{api.Open, api.Open, api.Keep, api.Take, api.Take, api.Take, api.Try, api.Free, api.Close}
	for seed := range uint32(40) {
		x, v := newHistory(t, 8+int(seed%5)), seed*2654435761
		choose := func(n int) int {
			v = v*1664525 + 1013904223
			return int(v>>16) % n
		}
		removed := 0
		for range 2000 {
			client, had := choose(8), len(x.num)
			switch choose(8) {
			case 0:
				x.pass(x.now + choose(7) - 2)
				removed += had - len(x.num)
			case 1:
				if seq := x.newest[client] - choose(3); seq > 0 {
					x.ask(askRightly(x.s, client, seq, kinds[choose(len(kinds))], "b"))
				}
			default:
				x.do(client, kinds[choose(len(kinds))], []string{"a", "b", "c", "d", "e"}[choose(5)])
			}
			if t.Failed() {
				return
			}
		}
		if x.s.Token < 50 || x.opened < 50 || removed < 5 {
			t.Errorf("seed %d: only %d tokens, %d sessions, and %d that were removed", seed, x.s.Token, x.opened, removed)
		}
	}
}

// A client that comes each time just before its lease ends keeps all that it
// has; as soon as it is silent for a lease, all of it is another one's.
func TestSilentClientsAreRemoved(t *testing.T) {
	for _, lease := range []int{2, 3, 10, 1000} {
		x := newHistory(t, lease)
		for _, client := range []int{2, 5} {
			x.do(client, api.Open, "")
			x.do(client, api.Take, "a")
		}
		for _, kind := range []int{api.Keep, api.Take, api.Try, api.Free, api.Keep} {
			x.pass(x.now + lease - 1)
			// Whatever they ask for, be it told that there is none, they came.
			x.do(2, kind, "zz")
			x.do(5, kind, "zz")
		}
		x.pass(x.now + lease - 1)
		x.do(5, api.Keep, "")
		if k := x.s.Locks[0]; k.Name != "a" || k.Holder != 2 || !slices.Equal(k.Line, row{5}) {
			t.Errorf("lease %d: client 2 does not hold a any more: %v", lease, k)
		}
		// An Open renews nothing, nor does a request that comes again, nor one of another session.
		x.do(2, api.Open, "")
		x.ask(ask(2, x.newest[2], api.Keep, 1, ""))
		x.s, _, _ = auto.Apply(x.s, ask(2, x.newest[2]+1, api.Keep, 77, ""))
		x.pass(x.now + 1)
		if k := x.s.Locks[0]; k.Name != "a" || k.Holder != 5 || len(k.Line) != 0 {
			t.Errorf("lease %d: client 5 does not hold a: %v", lease, k)
		}
		x.pass(x.now + lease)
		if len(x.s.Sessions) != 0 || len(x.s.Locks) != 0 {
			t.Errorf("lease %d: somebody is left: %v", lease, x.s)
		}
	}
}

// Tokens and numbers of sessions go on after all that had them is gone.
func TestNothingIsGivenTwice(t *testing.T) {
	x := newHistory(t, 5)
	for round := range 30 {
		client := round * 3 % 8
		x.do(client, api.Open, "")
		x.do(client, api.Take, "a")
		if got := x.told[place{client, x.newest[client]}]; !sameReply(got, told(api.OK, round+1, 0, grant("a", round+1))) {
			t.Errorf("round %d: %v", round, got)
		}
		if round%2 == 0 {
			x.do(client, api.Close, "")
		} else {
			x.pass(x.now + 5)
		}
		if len(x.s.Sessions) != 0 || len(x.s.Locks) != 0 {
			t.Errorf("round %d: somebody is left: %v", round, x.s)
		}
	}
}

// A lock goes through all who wait for it, as they came, whatever takes it from them.
func TestLockGoesRound(t *testing.T) {
	x := newHistory(t, 5)
	order := []int{3, 1, 7, 5}
	for _, client := range order {
		x.do(client, api.Open, "")
		x.do(client, api.Take, "a")
	}
	for i, client := range order {
		k := x.s.Locks[0]
		if k.Holder != client || k.Token != i+1 {
			t.Errorf("%d: %v", i, k)
		}
		switch i {
		case 0:
			x.do(client, api.Free, "a")
		case 1:
			x.do(client, api.Close, "")
		default:
			x.pass(x.now + 4)
			for _, other := range order[i+1:] {
				x.do(other, api.Keep, "")
			}
			x.pass(x.now + 1)
		}
	}
	if len(x.s.Locks) != 0 || x.s.Token != 4 {
		t.Errorf("after all: %v", x.s)
	}
}
