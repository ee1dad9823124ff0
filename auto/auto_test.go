package auto_test

import (
	"math"
	"slices"
	"testing"

	"padlock/api"
	"padlock/auto"
)

type (
	state = api.State
	row   = []int
)

// opened, held and said make what the tables of a state have.

func opened(client, num, renewed int) api.Session {
	return api.Session{Client: client, Num: num, Renewed: renewed}
}

func held(name string, holder, token int, line ...int) api.Lock {
	return api.Lock{Name: name, Holder: holder, Token: token, Line: line}
}

func said(client, seq int, code api.Errno, num, ahead int, grants ...api.Grant) api.Memo {
	return api.Memo{Client: client, Seq: seq, Reply: told(code, num, ahead, grants...)}
}

func told(code api.Errno, num, ahead int, grants ...api.Grant) api.Reply {
	return api.Reply{Code: code, Session: num, Ahead: ahead, Held: grants}
}

func grant(name string, token int) api.Grant {
	return api.Grant{Name: name, Token: token}
}

// busy returns a state at 100 with room for one session and one lock. Client 2
// holds b, for which as many wait as may, and f, for which nobody waits; client
// 0 waits for b, and holds d, for which client 2 waits. Clients 1, 4, 6 and 7
// have no session; client 5 has no memo, and client 6 has one.
func busy() state {
	return state{
		Time: 100, Num: 20, Token: 30,
		Sessions: []api.Session{opened(0, 11, 60), opened(2, 20, 95), opened(3, 4, 100), opened(5, 13, 90)},
		Locks:    []api.Lock{held("b", 2, 30, 5, 0, 3), held("d", 0, 7, 2), held("f", 2, 12)},
		Memos: []api.Memo{
			said(0, 5, api.ErrWait, 11, 1, grant("d", 7)),
			said(2, 9, api.OK, 20, 0, grant("b", 30), grant("f", 12)),
			said(3, 1, api.OK, 4, 0),
			said(6, 40, api.ErrSession, 0, 0),
		},
	}
}

// crowded returns a state at 9 with as many sessions and locks as there may be.
// Client 7 holds two locks, and waits for one; client 1 neither holds nor
// waits. Clients 0, 2 and 5 have no session.
func crowded() state {
	return state{
		Time: 9, Num: 6, Token: 8,
		Sessions: []api.Session{opened(1, 6, 3), opened(3, 2, 5), opened(4, 3, 3), opened(6, 4, 9), opened(7, 5, 3)},
		Locks:    []api.Lock{held("a", 7, 2, 4, 3), held("b", 3, 8, 6, 7), held("c", 7, 1, 6), held("d", 4, 5)},
		Memos:    []api.Memo{said(7, 2, api.ErrTwice, 5, 0, grant("a", 2), grant("c", 1))},
	}
}

// turned returns s, which nobody else has, with these changes.
func turned(s state, turns ...func(s *state)) state {
	for _, turn := range turns {
		turn(&s)
	}
	return s
}

// copyOf returns s in memory of its own.
func copyOf(s state) state {
	s.Sessions = slices.Clone(s.Sessions)
	s.Locks = slices.Clone(s.Locks)
	for i := range s.Locks {
		s.Locks[i].Line = slices.Clone(s.Locks[i].Line)
	}
	s.Memos = slices.Clone(s.Memos)
	for i := range s.Memos {
		s.Memos[i].Reply.Held = slices.Clone(s.Memos[i].Reply.Held)
	}
	return s
}

func sameReply(a, b api.Reply) bool {
	return a.Code == b.Code && a.Session == b.Session && a.Ahead == b.Ahead && slices.Equal(a.Held, b.Held)
}

func sameLock(a, b api.Lock) bool {
	return a.Name == b.Name && a.Holder == b.Holder && a.Token == b.Token && slices.Equal(a.Line, b.Line)
}

func sameMemo(a, b api.Memo) bool {
	return a.Client == b.Client && a.Seq == b.Seq && sameReply(a.Reply, b.Reply)
}

func same(a, b state) bool {
	return a.Time == b.Time && a.Num == b.Num && a.Token == b.Token &&
		slices.Equal(a.Sessions, b.Sessions) &&
		slices.EqualFunc(a.Locks, b.Locks, sameLock) &&
		slices.EqualFunc(a.Memos, b.Memos, sameMemo)
}

func wantRight(t *testing.T, s state, want bool) {
	t.Helper()
	if got := auto.Right(s); got != want {
		t.Errorf("Right(%v) = %v; want %v", s, got, want)
	}
}

func wantAdvance(t *testing.T, s state, time, lease int, want state) {
	t.Helper()
	before := copyOf(s)
	got := auto.Advance(s, time, lease)
	if !same(got, want) {
		t.Errorf("Advance(%v, %d, %d) = %v; want %v", before, time, lease, got, want)
	}
	if !same(s, before) {
		t.Errorf("Advance(_, %d, %d) turned %v into %v", time, lease, before, s)
	}
}

func wantGone(t *testing.T, a, b state, want ...int) {
	t.Helper()
	if got := auto.Gone(a, b); !slices.Equal(got, want) {
		t.Errorf("Gone(%v, %v) = %v; want %v", a, b, got, want)
	}
}

// 10.1: Right

func TestRight(t *testing.T) {
	for _, s := range []state{{}, busy(), crowded(), {Sessions: []api.Session{}, Locks: []api.Lock{}, Memos: []api.Memo{}}} {
		wantRight(t, s, true)
	}
}

func TestRightOfNumbers(t *testing.T) {
	for _, c := range []struct {
		v    int
		want bool
	}{
		{math.MinInt, false}, {-api.High, false}, {-1, false},
		{0, true}, {1, true}, {100, true}, {api.High - 1000, true}, {api.High - 1, true}, {api.High, true},
		{api.High + 1, false}, {1 << 62, false}, {math.MaxInt, false},
	} {
		wantRight(t, state{Time: c.v}, c.want)
		wantRight(t, state{Num: c.v}, c.want)
		wantRight(t, state{Token: c.v}, c.want)
		// Time is held to nothing else; Num and Token to what is there.
		wantRight(t, turned(busy(), func(s *state) { s.Time = c.v }), c.want)
		wantRight(t, turned(busy(), func(s *state) { s.Num = c.v }), c.want && c.v >= 20)
		wantRight(t, turned(busy(), func(s *state) { s.Token = c.v }), c.want && c.v >= 30)
	}
}

func TestRightOfWhatWasGiven(t *testing.T) {
	alone := func(num, given int) state {
		return state{Num: given, Sessions: []api.Session{opened(4, num, 0)}}
	}
	granted := func(token, given int) state {
		return state{Num: 1, Token: given, Sessions: []api.Session{opened(4, 1, 0)}, Locks: []api.Lock{held("a", 4, token)}}
	}
	for _, v := range []int{1, 2, 20, api.High - 1, api.High} {
		wantRight(t, alone(v, v), true)
		wantRight(t, alone(v, v-1), false)
		wantRight(t, alone(v, 0), false)
		wantRight(t, alone(v, api.High), true)
		wantRight(t, granted(v, v), true)
		wantRight(t, granted(v, v-1), false)
		wantRight(t, granted(v, 0), false)
		wantRight(t, granted(v, api.High), true)
	}
	// Whichever it is that has the greatest one.
	for i := range busy().Sessions {
		for _, num := range []int{19, 20, 21} {
			wantRight(t, turned(busy(), func(s *state) { s.Sessions[1].Num = 1; s.Sessions[i].Num = num }), num <= 20)
		}
	}
	for i := range busy().Locks {
		for _, token := range []int{29, 30, 31} {
			wantRight(t, turned(busy(), func(s *state) { s.Locks[0].Token = 1; s.Locks[i].Token = token }), token <= 30)
		}
	}
	// Num is not held to the tokens, nor Token to the numbers, nor either to
	// what memos tell.
	wantRight(t, turned(busy(), func(s *state) { s.Memos[1].Reply.Session = 99; s.Memos[1].Reply.Held[0].Token = 99 }), true)
}

func TestRightOfTables(t *testing.T) {
	for i, turn := range []func(s *state){
		func(s *state) { s.Sessions[0].Client = -1 },
		func(s *state) { s.Sessions[3].Client = 8 },
		func(s *state) { s.Sessions[2].Num = 0 },
		func(s *state) { s.Sessions[2].Num = 11 },
		func(s *state) { s.Sessions[2].Renewed = -1 },
		func(s *state) { s.Sessions[2].Renewed = api.High + 1 },
		func(s *state) { s.Sessions[1], s.Sessions[2] = s.Sessions[2], s.Sessions[1] },
		func(s *state) { s.Sessions = append(s.Sessions, opened(5, 14, 90)) },
		func(s *state) { s.Sessions = append(s.Sessions, opened(6, 1, 0), opened(7, 2, 0)) },
		func(s *state) { s.Locks[0].Name = "B" },
		func(s *state) { s.Locks[0].Name = "d" },
		func(s *state) { s.Locks[0].Name = "" },
		func(s *state) { s.Locks[1].Token = 0 },
		func(s *state) { s.Locks[1].Token = 12 },
		func(s *state) { s.Locks[1].Line = row{2, 2} },
		func(s *state) { s.Locks[1].Line = row{0} },
		func(s *state) { s.Locks[1].Line = row{5, 3, 2, 5} },
		func(s *state) { s.Locks[1], s.Locks[2] = s.Locks[2], s.Locks[1] },
		func(s *state) { s.Locks = append(s.Locks, held("g", 0, 1), held("h", 0, 2)) },
		func(s *state) { s.Memos[0].Client = -1 },
		func(s *state) { s.Memos[3].Client = 8 },
		func(s *state) { s.Memos[0].Client = 2 },
		func(s *state) { s.Memos[0].Seq = 0 },
		func(s *state) { s.Memos[0].Seq = api.High + 1 },
		func(s *state) { s.Memos[0].Reply.Code = 13 },
		func(s *state) { s.Memos[0].Reply.Ahead = 4 },
		func(s *state) { s.Memos[0].Reply.Session = 0 },
		func(s *state) { s.Memos[0].Reply.Held[0].Name = "D" },
		func(s *state) { s.Memos[1], s.Memos[2] = s.Memos[2], s.Memos[1] },
	} {
		if s := turned(busy(), turn); auto.Right(s) {
			t.Errorf("%d: Right(%v) = true", i, s)
		}
	}
	// Times of sessions are not held to the time, nor memos to the sessions.
	wantRight(t, turned(busy(), func(s *state) { s.Sessions[1].Renewed = 101 }), true)
	wantRight(t, turned(busy(), func(s *state) { s.Sessions[1].Renewed = api.High }), true)
	wantRight(t, turned(busy(), func(s *state) { s.Memos = nil }), true)
	wantRight(t, state{Memos: busy().Memos}, true)
}

// Each who holds or waits, wherever in a line, has a session.
func TestRightOfHoldersAndLines(t *testing.T) {
	for i, x := range busy().Sessions {
		wantRight(t, turned(busy(), func(s *state) { s.Sessions = slices.Delete(s.Sessions, i, i+1) }), false)
		wantRight(t, state{Num: 20, Token: 1, Sessions: busy().Sessions, Locks: []api.Lock{held("a", x.Client, 1)}}, true)
	}
	for client := range 8 {
		has := slices.Contains(row{0, 2, 3, 5}, client)
		for _, line := range []row{{client}, {client, 2, 3}, {2, client, 3}, {2, 3, client}} {
			if slices.Contains(row{2, 3}, client) {
				continue
			}
			// Whichever the lock is, and if it is client 0 that waits, client 5 holds.
			k := held("d", 0, 7, line...)
			if client == 0 {
				k.Holder = 5
			}
			wantRight(t, turned(busy(), func(s *state) { s.Locks[1] = k }), has)
			k.Name = "a"
			wantRight(t, turned(busy(), func(s *state) { s.Locks[0] = k; s.Locks[0].Token = 30 }), has)
			k.Name = "z"
			wantRight(t, turned(busy(), func(s *state) { s.Locks[2] = k; s.Locks[2].Token = 12 }), has)
		}
		wantRight(t, turned(busy(), func(s *state) { s.Locks[1] = held("d", client, 7) }), has)
		wantRight(t, turned(busy(), func(s *state) { s.Locks[2].Holder = client }), has)
		wantRight(t, state{Num: 3, Token: 1, Locks: []api.Lock{held("a", client, 1)}}, false)
	}
}

// 10.2: Advance

func TestAdvanceTime(t *testing.T) {
	for _, c := range []struct{ time, want int }{
		{math.MinInt, 100}, {-1, 100}, {0, 100}, {99, 100}, {100, 100}, {101, 101}, {5000, 5000},
		{api.High - 1, api.High - 1}, {api.High, api.High}, {api.High + 1, 100}, {math.MaxInt, 100},
	} {
		// A lease so long that nobody is due.
		wantAdvance(t, busy(), c.time, api.High, turned(busy(), func(s *state) { s.Time = c.want }))
		wantAdvance(t, state{Time: 100}, c.time, 1, state{Time: c.want})
	}
	wantAdvance(t, state{}, 0, 1, state{})
	wantAdvance(t, state{}, 7, 1, state{Time: 7})
	wantAdvance(t, state{Time: api.High}, 7, 1, state{Time: api.High})
}

// What is left of busy when clients are gone.

func withoutZero(s *state) {
	s.Sessions = slices.Delete(s.Sessions, 0, 1)
	s.Locks[0].Line = row{5, 3}
	s.Locks[1] = held("d", 2, 31)
	s.Token = 31
}

func withoutZeroAndFive(s *state) {
	s.Sessions = []api.Session{opened(2, 20, 95), opened(3, 4, 100)}
	s.Locks[0].Line = row{3}
	s.Locks[1] = held("d", 2, 31)
	s.Token = 31
}

func withAllGoneButThree(s *state) {
	s.Sessions = []api.Session{opened(3, 4, 100)}
	s.Locks = []api.Lock{held("b", 3, 31)}
	s.Token = 31
}

func withAllGone(s *state) {
	s.Sessions, s.Locks = nil, nil
}

func TestAdvanceOfWhoIsDue(t *testing.T) {
	at := func(time int) func(s *state) { return func(s *state) { s.Time = time } }
	for _, c := range []struct {
		time, lease int
		turns       []func(s *state)
	}{
		// Just ahead of the moment at which the next one is due, at it, and behind it.
		{100, 41, nil},
		{100, 40, []func(s *state){withoutZero}},
		{100, 39, []func(s *state){withoutZero}},
		{119, 60, []func(s *state){at(119)}},
		{120, 60, []func(s *state){at(120), withoutZero}},
		{121, 60, []func(s *state){at(121), withoutZero}},
		{149, 60, []func(s *state){at(149), withoutZero}},
		{150, 60, []func(s *state){at(150), withoutZeroAndFive}},
		{154, 60, []func(s *state){at(154), withoutZeroAndFive}},
		{155, 60, []func(s *state){at(155), withAllGoneButThree}},
		{159, 60, []func(s *state){at(159), withAllGoneButThree}},
		{160, 60, []func(s *state){at(160), withAllGone}},
		{api.High, 60, []func(s *state){at(api.High), withAllGone}},
		{api.High, api.High - 60, []func(s *state){at(api.High), withoutZero}},
		{api.High, api.High - 59, []func(s *state){at(api.High)}},
		// A time that is not taken lets those go that are due at the old one.
		{20, 40, []func(s *state){withoutZero}},
		{-9, 11, []func(s *state){withoutZero}},
		{api.High + 1, 10, []func(s *state){withoutZeroAndFive}},
		{math.MaxInt, 5, []func(s *state){withAllGoneButThree}},
		// A lease below 1 is one of 1: client 3, renewed just now, stays.
		{100, 1, []func(s *state){withAllGoneButThree}},
		{100, 0, []func(s *state){withAllGoneButThree}},
		{100, -1, []func(s *state){withAllGoneButThree}},
		{100, math.MinInt, []func(s *state){withAllGoneButThree}},
		{101, 0, []func(s *state){at(101), withAllGone}},
		{101, 1, []func(s *state){at(101), withAllGone}},
		{101, 2, []func(s *state){at(101), withAllGoneButThree}},
		// A lease greater than all times lets nobody go (6.2).
		{api.High, api.High + 1, []func(s *state){at(api.High)}},
		{api.High, math.MaxInt, []func(s *state){at(api.High)}},
	} {
		wantAdvance(t, busy(), c.time, c.lease, turned(busy(), c.turns...))
	}
}

// All at once: who is due gets no lock of another one that is due, and tokens
// are given in the order of names.
func TestAdvanceOfSeveralAtOnce(t *testing.T) {
	wantAdvance(t, crowded(), 9, 6, turned(crowded(), func(s *state) {
		s.Sessions = []api.Session{opened(3, 2, 5), opened(6, 4, 9)}
		s.Locks = []api.Lock{held("a", 3, 9), held("b", 3, 8, 6), held("c", 6, 10)}
		s.Token = 10
	}))
	wantAdvance(t, crowded(), 11, 6, turned(crowded(), func(s *state) {
		s.Time = 11
		s.Sessions = []api.Session{opened(6, 4, 9)}
		s.Locks = []api.Lock{held("b", 6, 9), held("c", 6, 10)}
		s.Token = 10
	}))
	// As many as there can be: four locks are given at once.
	s := turned(crowded(), func(s *state) {
		for i := range s.Locks {
			s.Locks[i] = held(s.Locks[i].Name, 7, i+1, 3, 6, 1)
		}
	})
	wantAdvance(t, s, 9, 6, turned(copyOf(s), func(s *state) {
		s.Sessions = []api.Session{opened(3, 2, 5), opened(6, 4, 9)}
		for i := range s.Locks {
			s.Locks[i] = held(s.Locks[i].Name, 3, 9+i, 6)
		}
		s.Token = 12
	}))
	// Where nobody waits, nothing is given.
	wantAdvance(t, turned(crowded(), func(s *state) { s.Locks = []api.Lock{held("c", 7, 1), held("d", 4, 5, 7)} }), 9, 6, turned(crowded(), func(s *state) {
		s.Sessions = []api.Session{opened(3, 2, 5), opened(6, 4, 9)}
		s.Locks = nil
	}))
}

// Who was renewed later than the time is not due, and there is none to be due.
func TestAdvanceOfNobody(t *testing.T) {
	later := turned(busy(), func(s *state) {
		for i := range s.Sessions {
			s.Sessions[i].Renewed = 200 + i
		}
	})
	wantAdvance(t, later, 150, 1, turned(copyOf(later), func(s *state) { s.Time = 150 }))
	wantAdvance(t, later, 200, 1, turned(copyOf(later), func(s *state) { s.Time = 200 }))
	nobody := state{Time: 5, Num: 6, Token: 7, Memos: busy().Memos}
	wantAdvance(t, nobody, 900, 1, turned(copyOf(nobody), func(s *state) { s.Time = 900 }))
}

// 10.4: Gone

func TestGone(t *testing.T) {
	wantGone(t, state{}, state{})
	wantGone(t, state{}, busy())
	wantGone(t, busy(), busy())
	wantGone(t, crowded(), crowded())
	wantGone(t, busy(), state{}, 0, 2, 3, 5)
	wantGone(t, crowded(), state{}, 1, 3, 4, 6, 7)
	wantGone(t, busy(), auto.Advance(busy(), 120, 60), 0)
	wantGone(t, busy(), auto.Advance(busy(), 150, 60), 0, 5)
	wantGone(t, busy(), auto.Advance(busy(), 155, 60), 0, 2, 5)
	wantGone(t, busy(), auto.Advance(busy(), 160, 60), 0, 2, 3, 5)
	wantGone(t, auto.Advance(busy(), 120, 60), busy())
}

// Of all that can be gone: each set of clients, in ascending order.
func TestGoneOfEachSet(t *testing.T) {
	for bits := range 1 << 5 {
		a, b := crowded(), crowded()
		b.Sessions = nil
		var want row
		for i, x := range a.Sessions {
			if bits>>i&1 == 1 {
				want = append(want, x.Client)
			} else {
				b.Sessions = append(b.Sessions, x)
			}
		}
		wantGone(t, a, b, want...)
		wantGone(t, b, a)
		// The same if those came back with other numbers.
		b = crowded()
		for i := range b.Sessions {
			if bits>>i&1 == 1 {
				b.Num++
				b.Sessions[i].Num = b.Num
			}
		}
		wantGone(t, a, b, want...)
	}
}

func TestGoneIsAboutNumbers(t *testing.T) {
	a := state{Num: 9, Sessions: []api.Session{opened(1, 3, 5), opened(4, 9, 7)}}
	// When it was renewed, and all else, is nothing to it.
	wantGone(t, a, state{Time: 90, Num: 12, Token: 4, Sessions: []api.Session{opened(1, 3, 80), opened(4, 9, 0)}})
	wantGone(t, a, state{Num: 10, Sessions: []api.Session{opened(1, 10, 5), opened(4, 9, 7)}}, 1)
	wantGone(t, a, state{Num: 10, Sessions: []api.Session{opened(1, 3, 5), opened(4, 10, 7)}}, 4)
	wantGone(t, a, state{Num: 9, Sessions: []api.Session{opened(1, 2, 5), opened(4, 8, 7)}}, 1, 4)
	// The number of one client is not a session of another one.
	wantGone(t, a, state{Num: 9, Sessions: []api.Session{opened(1, 9, 5), opened(4, 3, 7)}}, 1, 4)
	wantGone(t, a, state{Num: 9, Sessions: []api.Session{opened(2, 3, 5), opened(5, 9, 7)}}, 1, 4)
	// States whose numbers are as great as they may be.
	wantGone(t, state{Num: api.High, Sessions: []api.Session{opened(0, api.High, 0)}}, state{}, 0)
}

// A client that came back is gone all the same.
func TestGoneOfWhoCameBack(t *testing.T) {
	a := busy()
	b, _, _ := auto.Apply(a, api.Req{Client: 0, Seq: 6, Cmd: api.Cmd{Kind: api.Close, Session: 11}})
	wantGone(t, a, b, 0)
	c, r, _ := auto.Apply(b, api.Req{Client: 0, Seq: 7, Cmd: api.Cmd{Kind: api.Open}})
	if r.Session != 21 {
		t.Errorf("client 0 came back with the session %d", r.Session)
	}
	wantGone(t, a, c, 0)
	wantGone(t, b, c)
	wantGone(t, c, a, 0)
}
