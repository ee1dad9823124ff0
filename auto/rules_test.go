package auto_test

import (
	"maps"
	"math"
	"slices"
	"testing"

	"padlock/api"
	"padlock/auto"
)

// rightStates returns states with tables of each length. Each call makes them anew.
func rightStates() []state {
	all := []state{
		{},
		{Sessions: []api.Session{}, Locks: []api.Lock{}, Memos: []api.Memo{}},
		{Time: api.High, Num: api.High - 1000, Token: api.High - 1000},
		{Time: 7, Num: 3, Memos: []api.Memo{said(0, 3, api.OK, 0, 0), said(7, api.High, api.ErrFull, 0, 0)}},
		{Num: 1, Sessions: []api.Session{opened(4, 1, 0)}},
		{Num: 1, Token: 1, Sessions: []api.Session{opened(4, 1, 0)}, Locks: []api.Lock{held("d", 4, 1)}},
		busy(),
		crowded(),
		auto.Advance(busy(), 120, 60),
		auto.Advance(crowded(), 9, 6),
	}
	// Lines of each length, nil ones and empty ones, and memos of all clients.
	lines := turned(crowded(), func(s *state) {
		s.Time, s.Token = api.High, api.High-1000
		s.Locks = []api.Lock{held("a", 7, 2, 4, 3, 1), held("b", 3, 8, 6, 7), held("c", 1, 1, 6), held("d", 4, 5, row{}...)}
		s.Memos = nil
		for client := range 8 {
			s.Memos = append(s.Memos, said(client, client+1, api.Errno(client), 5, client%3, []api.Grant{grant("a", 2), grant("b", 8), grant("c", 1), grant("d", 5)}[:client%5]...))
		}
	})
	return append(all, lines)
}

// wrongStates returns states that are not right, by numbers and tables of many kinds.
func wrongStates() []state {
	all := []state{
		{Time: -1},
		{Time: math.MinInt, Num: math.MinInt, Token: math.MinInt},
		{Time: math.MaxInt, Num: math.MaxInt, Token: math.MaxInt},
		{Sessions: []api.Session{{}}},
		{Locks: []api.Lock{{}}},
		{Memos: []api.Memo{{}}},
		{Num: 9, Sessions: make([]api.Session, 40), Locks: make([]api.Lock, 40), Memos: make([]api.Memo, 40)},
		turned(busy(), func(s *state) { s.Num = 19 }),
		turned(busy(), func(s *state) { s.Token = 29 }),
		turned(busy(), func(s *state) { s.Num = 10; s.Token = 6; s.Sessions[0].Num = 12 }),
		turned(busy(), func(s *state) { s.Sessions = nil }),
		turned(busy(), func(s *state) { s.Sessions = s.Sessions[2:] }),
		turned(busy(), func(s *state) { s.Num, s.Token = math.MaxInt, math.MaxInt; s.Time = -5 }),
		turned(busy(), func(s *state) { slices.Reverse(s.Sessions); slices.Reverse(s.Locks); slices.Reverse(s.Memos) }),
		turned(busy(), func(s *state) {
			s.Sessions = append(s.Sessions, s.Sessions...)
			s.Locks = append(s.Locks, s.Locks...)
			s.Memos = append(s.Memos, s.Memos...)
		}),
		turned(busy(), func(s *state) {
			s.Sessions = []api.Session{opened(-1, 0, math.MinInt), opened(2, math.MinInt, math.MaxInt), opened(8, math.MaxInt, -1)}
		}),
		turned(busy(), func(s *state) {
			s.Locks = []api.Lock{held("", -1, 0, -1, -1), held("B", 8, math.MaxInt, 2, 2, 2, 2, 2), held("b", 2, math.MinInt, 2)}
		}),
		turned(busy(), func(s *state) {
			s.Memos = []api.Memo{said(-1, -1, -1, -1, -1, grant("", 0)), said(2, math.MinInt, 99, 0, 9, ofTwo...), said(8, math.MaxInt, 0, 0, 0, grant("a", 1), grant("a", 1))}
		}),
	}
	return all
}

// result is all that a call returns: what there is none of is zero.
type result struct {
	s     state
	reply api.Reply
	gone  row
	ok    bool
}

func (a result) equals(b result) bool {
	return same(a.s, b.s) && sameReply(a.reply, b.reply) && slices.Equal(a.gone, b.gone) && a.ok == b.ok
}

func (a result) copy() result {
	a.s = copyOf(a.s)
	a.reply.Held = slices.Clone(a.reply.Held)
	a.gone = slices.Clone(a.gone)
	return a
}

// scrawl writes into all lists of a result, and into their spare capacity.
func (a result) scrawl() {
	scrawl(a.s)
	scrawlAll(a.reply.Held, grant("-7", -7))
	scrawlAll(a.gone, -7)
}

func scrawl(s state) {
	scrawlAll(s.Sessions, opened(-7, -7, -7))
	for _, k := range s.Locks[:cap(s.Locks)] {
		scrawlAll(k.Line, -7)
	}
	scrawlAll(s.Locks, held("-7", -7, -7, -7))
	for _, m := range s.Memos[:cap(s.Memos)] {
		scrawlAll(m.Reply.Held, grant("-7", -7))
	}
	scrawlAll(s.Memos, said(-7, -7, -7, -7, -7, grant("-7", -7)))
}

func scrawlAll[T any](l []T, v T) {
	all := l[:cap(l)]
	for i := range all {
		all[i] = v
	}
}

// someReqs returns requests of all clients: the last one, older and newer ones,
// of its session and of none, about locks that there are and that there are
// not; and some that are not well-formed.
func someReqs(s state) []api.Req {
	all := []api.Req{{}, ask(8, 1, api.Keep, 1, ""), ask(-1, 1, api.Open, 0, ""), ask(0, 50, 7, 1, ""), ask(2, 50, api.Take, 20, "B")}
	for client := range 8 {
		seqs := row{0, 1, 2, 50, api.High, api.High + 1}
		for _, m := range s.Memos {
			if m.Client == client {
				seqs = append(seqs, m.Seq-1, m.Seq, m.Seq+1)
			}
		}
		for _, seq := range seqs {
			for kind := api.Open; kind <= api.Close; kind++ {
				for _, name := range []string{"a", "b", "c", "d", "f"} {
					r := askRightly(s, client, seq, kind, name)
					all = append(all, r)
					if r.Cmd.Name == "" {
						break
					}
				}
			}
			all = append(all, askRightly(s, client, seq, api.Free, "zz"), ask(client, seq, api.Take, 99, "b"), ask(client, seq, api.Close, 4, ""))
		}
	}
	return all
}

// eachCall calls f with calls of all kinds that can be made on a state like s.
func eachCall(s state, f func(call func(s state) result)) {
	f(func(s state) result { return result{ok: auto.Right(s)} })
	for _, time := range []int{math.MinInt, -1, 0, 9, 100, 120, 160, api.High, api.High + 1, math.MaxInt} {
		for _, lease := range []int{math.MinInt, 0, 1, 6, 40, 60, api.High, math.MaxInt} {
			f(func(s state) result { return result{s: auto.Advance(s, time, lease)} })
		}
	}
	for _, r := range someReqs(s) {
		f(func(s state) result { x, reply, ok := auto.Apply(s, r); return result{s: x, reply: reply, ok: ok} })
	}
	for _, other := range []state{{}, busy(), crowded()} {
		f(func(s state) result { return result{gone: auto.Gone(s, other)} })
		f(func(s state) result { return result{gone: auto.Gone(other, s)} })
	}
	f(func(s state) result { return result{gone: auto.Gone(s, s)} })
}

func eachState() []state {
	return append(rightStates(), wrongStates()...)
}

func TestStatesAreWhatTheyAreTakenFor(t *testing.T) {
	for _, s := range rightStates() {
		wantRight(t, s, true)
	}
	for _, s := range wrongStates() {
		wantRight(t, s, false)
	}
}

// What is right stays right (10.5), whatever is done to it.
func TestStatesStayRight(t *testing.T) {
	for _, s := range rightStates() {
		for _, r := range someReqs(s) {
			x, reply, ok := auto.Apply(s, r)
			wantRight(t, x, true)
			if y, again, done := auto.Apply(x, r); ok && (done || !same(x, y) || !sameReply(reply, again)) {
				t.Errorf("Apply(%v, %v) a second time = %v, %v, %v; want %v, %v, false", x, r, y, again, done, x, reply)
			}
		}
		for _, time := range []int{-1, 0, 50, 100, 120, 160, api.High, api.High + 1} {
			for _, lease := range []int{-1, 0, 1, 6, 40, 60, api.High} {
				wantRight(t, auto.Advance(s, time, lease), true)
			}
		}
	}
}

// R1: states that are not right make no call panic, and each call ends.
func TestWrongArguments(t *testing.T) {
	for _, s := range eachState() {
		eachCall(s, func(call func(s state) result) { call(s) })
		eachCall(busy(), func(call func(s state) result) { call(s) })
	}
	long := state{Time: 5, Num: 1 << 17, Token: 1 << 17, Sessions: make([]api.Session, 1<<12), Locks: make([]api.Lock, 1<<12), Memos: make([]api.Memo, 1<<12)}
	for i := range 1 << 12 {
		long.Sessions[i], long.Locks[i], long.Memos[i] = opened(i, i, 0), held("b", i, i, make(row, 50)...), said(i, i, 0, 0, 0)
	}
	wantRight(t, long, false)
	for _, r := range []api.Req{ask(2, 9, api.Open, 0, ""), ask(3, 9, api.Close, 3, ""), ask(5, 9, api.Take, 5, "b"), ask(5, 9, api.Free, 5, "b")} {
		auto.Apply(long, r)
	}
	auto.Advance(long, 6, 1)
	auto.Advance(long, 6, 100)
	auto.Gone(long, long)
	auto.Gone(long, state{})
}

// R1: what is told hangs on the arguments alone, and of a list on its elements.
func TestSameArgumentsSameResults(t *testing.T) {
	for _, s := range eachState() {
		roomy, clipped := behind(s), copyOf(s)
		eachCall(s, func(call func(s state) result) {
			first, second, third, fourth := call(s), call(s), call(clipped), call(roomy.s)
			if !first.equals(second) || !first.equals(third) || !first.equals(fourth) {
				t.Errorf("of the same state %v a call tells %v, %v, %v and %v", s, first, second, third, fourth)
			}
		})
	}
}

// R3: a nil list and an empty one are the same, in a state and in what it has.
func TestNilAndEmpty(t *testing.T) {
	for _, s := range eachState() {
		with := func(empty bool) state {
			x := copyOf(s)
			x.Sessions, x.Locks, x.Memos = filled(x.Sessions, empty), filled(x.Locks, empty), filled(x.Memos, empty)
			for i := range x.Locks {
				x.Locks[i].Line = filled(x.Locks[i].Line, empty)
			}
			for i := range x.Memos {
				x.Memos[i].Reply.Held = filled(x.Memos[i].Reply.Held, empty)
			}
			return x
		}
		none, empty := with(false), with(true)
		eachCall(s, func(call func(s state) result) {
			if first, second := call(none), call(empty); !first.equals(second) {
				t.Errorf("of %v a call tells %v with nil lists, and %v with empty ones", s, first, second)
			}
		})
	}
}

// filled returns l, but if it has no elements, one that is nil or empty.
func filled[T any](l []T, empty bool) []T {
	switch {
	case len(l) > 0:
		return l
	case empty:
		return make([]T, 0, 5)
	}
	return nil
}

// memory is a state in lists that go on behind their ends, as its lines and
// what its replies hold do, which lie in one piece of memory each.
type memory struct {
	s, whole state
	lines    row
	grants   []api.Grant
}

func behind(s state) (m memory) {
	m.whole = copyOf(s)
	m.whole.Sessions = append(m.whole.Sessions, opened(9, 9, 9), opened(2, 20, 1))
	m.whole.Locks = append(m.whole.Locks, held("x", -1, -1, 5, 5), held("b", 9, 9, 9))
	m.whole.Memos = append(m.whole.Memos, said(-1, 4, 2, 2, 2, ofTwo...), said(2, 9, 3, 3, 3, ofZero...))
	for _, k := range m.whole.Locks {
		m.lines = append(append(m.lines, k.Line...), 5)
	}
	for _, x := range m.whole.Memos {
		m.grants = append(append(m.grants, x.Reply.Held...), grant("y", 6))
	}
	at := 0
	for i, k := range m.whole.Locks {
		m.whole.Locks[i].Line = m.lines[at : at+len(k.Line)]
		at += len(k.Line) + 1
	}
	at = 0
	for i, x := range m.whole.Memos {
		m.whole.Memos[i].Reply.Held = m.grants[at : at+len(x.Reply.Held)]
		at += len(x.Reply.Held) + 1
	}
	m.s = m.whole
	m.s.Sessions, m.s.Locks, m.s.Memos = m.whole.Sessions[:len(s.Sessions)], m.whole.Locks[:len(s.Locks)], m.whole.Memos[:len(s.Memos)]
	return m
}

func (m memory) copy() memory {
	return memory{whole: copyOf(m.whole), lines: slices.Clone(m.lines), grants: slices.Clone(m.grants)}
}

func (m memory) equals(o memory) bool {
	return same(m.whole, o.whole) && slices.Equal(m.lines, o.lines) && slices.Equal(m.grants, o.grants)
}

func (m memory) scrawl() {
	scrawlAll(m.lines, -7)
	scrawlAll(m.grants, grant("-7", -7))
	scrawl(m.whole)
}

// R4, R5: no call changes the state that it is handed, nor its lines, nor what
// its replies hold, nor what lies behind their ends, whatever it tells.
func TestStatesStay(t *testing.T) {
	for _, s := range eachState() {
		m := behind(s)
		before := m.copy()
		eachCall(s, func(call func(s state) result) {
			call(m.s)
			if !m.equals(before) {
				t.Fatalf("a call turned %v into %v", before, m)
			}
		})
	}
}

// R4: whoever writes into what was handed in, or behind its end, changes no result.
func TestStatesAreNotRetained(t *testing.T) {
	for _, s := range eachState() {
		eachCall(s, func(call func(s state) result) {
			m := behind(s)
			got := call(m.s)
			want := got.copy()
			m.scrawl()
			if !got.equals(want) {
				t.Errorf("writing into %v turned the result from %v into %v", s, want, got)
			}
		})
	}
}

// R4: whoever writes into a result, and into its spare capacity, changes neither
// what was handed in nor any other result.
func TestResultsAreNewMemory(t *testing.T) {
	for _, s := range eachState() {
		m := behind(s)
		before := m.copy()
		eachCall(s, func(call func(s state) result) {
			first, second := call(m.s), call(m.s)
			want := second.copy()
			first.scrawl()
			if !second.equals(want) {
				t.Errorf("writing into the first result turned the second from %v into %v", want, second)
			}
			if !m.equals(before) {
				t.Fatalf("writing into a result turned %v into %v", before, m)
			}
			if third := call(m.s); !third.equals(want) {
				t.Errorf("writing into the first result turned the third from %v into %v", want, third)
			}
		})
	}
}

// listsOf returns for each list of a result what writes into it, and into its
// spare capacity.
func listsOf(a *result) []func() {
	all := []func(){
		func() { scrawlAll(a.s.Sessions, opened(-7, -7, -7)) },
		func() { scrawlAll(a.reply.Held, grant("-7", -7)) },
	}
	for i := range a.s.Locks {
		all = append(all, func() { scrawlAll(a.s.Locks[i].Line, -7) })
	}
	for i := range a.s.Memos {
		all = append(all, func() { scrawlAll(a.s.Memos[i].Reply.Held, grant("-7", -7)) })
	}
	return all
}

// R4: no two lists of one result share anything, not even behind their ends,
// even if those that were handed in do.
func TestListsOfResultsAreApart(t *testing.T) {
	lines := append(make(row, 0, 9), 1, 3, 6)
	grants := append(make([]api.Grant, 0, 9), grant("a", 2), grant("b", 8), grant("c", 1))
	shared := turned(crowded(), func(s *state) {
		for i := range s.Locks {
			s.Locks[i].Holder, s.Locks[i].Line = 7-i%2*3, lines[:i%4]
		}
		s.Memos = nil
		for client := range 8 {
			m := said(client, 5, api.OK, 5, 0)
			m.Reply.Held = grants[:client%4]
			s.Memos = append(s.Memos, m)
		}
	})
	wantRight(t, shared, true)
	for _, s := range append(rightStates(), shared) {
		eachCall(s, func(call func(s state) result) {
			got := call(s)
			for i := range listsOf(&got) {
				got := call(s)
				before := got.copy()
				listsOf(&got)[i]()
				changed := one(!slices.Equal(got.s.Sessions, before.s.Sessions)) + one(!sameReply(got.reply, before.reply))
				for j := range got.s.Locks {
					changed += one(!sameLock(got.s.Locks[j], before.s.Locks[j]))
				}
				for j := range got.s.Memos {
					changed += one(!sameMemo(got.s.Memos[j], before.s.Memos[j]))
				}
				if changed > 1 {
					t.Fatalf("writing into list %d of %v turned %d lists, into %v", i, before, changed, got)
				}
			}
		})
	}
}

func one(ok bool) int {
	if ok {
		return 1
	}
	return 0
}

// R4: spare capacity is apart, too: a list that goes on behind the end of
// another one would be turned by an append to that.
func TestAppendingToAResult(t *testing.T) {
	for _, s := range rightStates() {
		eachCall(s, func(call func(s state) result) {
			got := call(s)
			want := got.copy()
			_ = append(got.s.Sessions, opened(-7, -7, -7))
			_ = append(got.s.Locks, held("-7", -7, -7))
			_ = append(got.s.Memos, said(-7, -7, -7, -7, -7))
			_ = append(got.reply.Held, grant("-7", -7))
			_ = append(got.gone, -7)
			for _, k := range got.s.Locks {
				_ = append(k.Line, -7)
			}
			for _, m := range got.s.Memos {
				_ = append(m.Reply.Held, grant("-7", -7))
			}
			if !got.equals(want) {
				t.Errorf("appending to lists of %v turned them into %v", want, got)
			}
		})
	}
}

// R4: one state with room behind its ends that two requests are applied to:
// neither result has what the other one got.
func TestOneStateIsUsedTwice(t *testing.T) {
	m := behind(busy())
	reqs := someReqs(busy())
	for i, r := range reqs {
		want, _, _ := auto.Apply(busy(), r)
		first, _, _ := auto.Apply(m.s, r)
		auto.Apply(m.s, reqs[(i*7+3)%len(reqs)])
		auto.Advance(m.s, 120, 60)
		if !same(first, want) {
			t.Errorf("Apply(_, %v) = %v; want %v", r, first, want)
		}
	}
}

// The model says what the chapter says in another way than the package does: it
// has its tables by client and by name, and a lock is the row of those who came
// for it, of whom the first one holds it.

type came struct {
	token int
	all   row
}

type model struct {
	time, num, token int
	sessions         map[int]api.Session
	locks            map[string]came
	memos            map[int]api.Memo
}

func modelOf(s state) *model {
	m := &model{s.Time, s.Num, s.Token, map[int]api.Session{}, map[string]came{}, map[int]api.Memo{}}
	for _, x := range s.Sessions {
		m.sessions[x.Client] = x
	}
	for _, k := range s.Locks {
		m.locks[k.Name] = came{k.Token, append(row{k.Holder}, k.Line...)}
	}
	for _, x := range s.Memos {
		m.memos[x.Client] = x
	}
	return m
}

func (m *model) state() state {
	s := state{Time: m.time, Num: m.num, Token: m.token}
	for _, client := range slices.Sorted(maps.Keys(m.sessions)) {
		s.Sessions = append(s.Sessions, m.sessions[client])
	}
	for _, name := range slices.Sorted(maps.Keys(m.locks)) {
		k := m.locks[name]
		s.Locks = append(s.Locks, held(name, k.all[0], k.token, k.all[1:]...))
	}
	for _, client := range slices.Sorted(maps.Keys(m.memos)) {
		s.Memos = append(s.Memos, m.memos[client])
	}
	return s
}

// leave lets clients go from one lock.
func (m *model) leave(name string, gone ...int) {
	k := m.locks[name]
	var rest row
	for _, client := range k.all {
		if !slices.Contains(gone, client) {
			rest = append(rest, client)
		}
	}
	switch {
	case len(rest) == 0:
		delete(m.locks, name)
	case rest[0] == k.all[0]:
		m.locks[name] = came{k.token, rest}
	default:
		m.token++
		m.locks[name] = came{m.token, rest}
	}
}

func (m *model) drop(gone ...int) {
	for _, name := range slices.Sorted(maps.Keys(m.locks)) {
		m.leave(name, gone...)
	}
	for _, client := range gone {
		delete(m.sessions, client)
	}
}

func (m *model) advance(time, lease int) {
	if time <= api.High {
		m.time = max(m.time, time)
	}
	if lease > api.High {
		return
	}
	var due row
	for client, x := range m.sessions {
		if x.Renewed+max(lease, 1) <= m.time {
			due = append(due, client)
		}
	}
	m.drop(due...)
}

// mayAsk says what chapter 4 says of requests.
func mayAsk(r api.Req) bool {
	ok := r.Client >= 0 && r.Client < 8 && r.Seq >= 1 && r.Seq <= api.High && r.Cmd.Kind >= 1 && r.Cmd.Kind <= 6
	ok = ok && r.Cmd.Session <= api.High && (r.Cmd.Session >= 1) == (r.Cmd.Kind != api.Open) && r.Cmd.Session >= 0
	named := r.Cmd.Kind == api.Take || r.Cmd.Kind == api.Try || r.Cmd.Kind == api.Free
	ok = ok && named == (r.Cmd.Name != "") && len(r.Cmd.Name) <= 12
	for _, c := range []byte(r.Cmd.Name) {
		ok = ok && (c >= 'a' && c <= 'z' || c >= '0' && c <= '9' || c == '-')
	}
	return ok
}

func (m *model) apply(r api.Req) (api.Reply, bool) {
	last := m.memos[r.Client]
	switch {
	case !mayAsk(r):
		return api.Reply{Code: api.ErrArg}, false
	case r.Seq < last.Seq:
		return api.Reply{}, false
	case r.Seq == last.Seq:
		return last.Reply, false
	}
	code, ahead := m.execute(r.Client, r.Cmd)
	reply := api.Reply{Code: code}
	if x, ok := m.sessions[r.Client]; ok && code != api.ErrSession {
		reply.Session, reply.Ahead = x.Num, ahead
		for _, name := range slices.Sorted(maps.Keys(m.locks)) {
			if k := m.locks[name]; k.all[0] == r.Client {
				reply.Held = append(reply.Held, grant(name, k.token))
			}
		}
	}
	m.memos[r.Client] = api.Memo{Client: r.Client, Seq: r.Seq, Reply: reply}
	return reply, true
}

func (m *model) execute(client int, c api.Cmd) (api.Errno, int) {
	x, has := m.sessions[client]
	switch {
	case c.Kind == api.Open && has:
		return api.ErrTwice, 0
	case c.Kind == api.Open && len(m.sessions) == 5:
		return api.ErrFull, 0
	case c.Kind == api.Open:
		m.num++
		m.sessions[client] = opened(client, m.num, m.time)
		return api.OK, 0
	case !has || x.Num != c.Session:
		return api.ErrSession, 0
	}
	m.sessions[client] = opened(client, x.Num, max(x.Renewed, m.time))
	switch c.Kind {
	case api.Take, api.Try:
		return m.take(client, c.Name, c.Kind == api.Take)
	case api.Free:
		if !slices.Contains(m.locks[c.Name].all, client) {
			return api.ErrNone, 0
		}
		m.leave(c.Name, client)
	case api.Close:
		m.drop(client)
	}
	return api.OK, 0
}

func (m *model) take(client int, name string, wait bool) (api.Errno, int) {
	k, has := m.locks[name]
	at := slices.Index(k.all, client)
	switch {
	case !has && len(m.locks) == 4:
		return api.ErrFull, 0
	case !has:
		m.token++
		m.locks[name] = came{m.token, row{client}}
		return api.OK, 0
	case at == 0:
		return api.ErrTwice, 0
	case !wait:
		return api.ErrBusy, 0
	case at > 0:
		return api.ErrWait, at - 1
	case len(k.all) == 4:
		return api.ErrFull, 0
	}
	m.locks[name] = came{k.token, append(k.all, client)}
	return api.ErrWait, len(k.all) - 1
}

// R2, R3, R5: of right states all calls tell what the model tells, the first
// case that applies, and beside false and a code what the chapter names.
func TestCallsAsModel(t *testing.T) {
	for _, s := range rightStates() {
		wantAsModel(t, s)
		// The same a step further on.
		for i, r := range someReqs(s) {
			if i%47 == 0 {
				next, _, _ := auto.Apply(s, r)
				wantAsModel(t, next)
			}
		}
	}
}

func wantAsModel(t *testing.T, s state) {
	t.Helper()
	for _, r := range someReqs(s) {
		m := modelOf(s)
		reply, ok := m.apply(r)
		wantApply(t, s, r, m.state(), reply, ok)
	}
	for _, time := range []int{-1, 0, 7, 8, 9, 10, 99, 100, 101, 120, 155, 160, api.High - 1, api.High, api.High + 1} {
		for _, lease := range []int{-3, 0, 1, 2, 5, 6, 40, 41, 60, api.High, api.High + 1} {
			m := modelOf(s)
			m.advance(time, lease)
			wantAdvance(t, s, time, lease, m.state())
		}
	}
}

// Long histories, the choices by a short rule, step by step as the model.
func TestHistoriesAsModel(t *testing.T) {
	for seed := range uint32(30) {
		v := seed*2654435761 + 12345
		choose := func(n int) int {
			v = v*1664525 + 1013904223
			return int(v>>16) % n
		}
		s, codes := state{}, map[api.Errno]int{}
		for range 1500 {
			m := modelOf(s)
			if choose(6) == 0 {
				time, lease := s.Time+choose(6)-1, 25
				m.advance(time, lease)
				wantAdvance(t, s, time, lease, m.state())
				s = auto.Advance(s, time, lease)
			} else {
				client := choose(8)
				seq := m.memos[client].Seq + max(choose(6)-2, -1)
				kind := []int{api.Open, api.Keep, api.Take, api.Take, api.Take, api.Try, api.Free, api.Close}[choose(8)]
				r := askRightly(s, client, seq, kind, []string{"a", "b", "c", "d", "e"}[choose(5)])
				reply, ok := m.apply(r)
				wantApply(t, s, r, m.state(), reply, ok)
				s, _, _ = auto.Apply(s, r)
				codes[reply.Code]++
			}
			wantRight(t, s, true)
			if t.Failed() {
				return
			}
		}
		for _, code := range []api.Errno{api.OK, api.ErrArg, api.ErrFull, api.ErrNone, api.ErrTwice, api.ErrBusy, api.ErrSession, api.ErrWait} {
			if codes[code] == 0 {
				t.Errorf("seed %d: nothing was told %d: %v", seed, code, codes)
			}
		}
	}
}
