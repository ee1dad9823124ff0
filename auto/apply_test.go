package auto_test

import (
	"math"
	"slices"
	"strings"
	"testing"

	"padlock/api"
	"padlock/auto"
)

// ask makes a request: of a client, its number, and what of which session about which lock.
func ask(client, seq, kind, num int, name string) api.Req {
	return api.Req{Client: client, Seq: seq, Cmd: api.Cmd{Kind: kind, Session: num, Name: name}}
}

func wantApply(t *testing.T, s state, r api.Req, want state, wantReply api.Reply, wantOK bool) {
	t.Helper()
	before := copyOf(s)
	got, reply, ok := auto.Apply(s, r)
	if !same(got, want) || !sameReply(reply, wantReply) || ok != wantOK {
		t.Errorf("Apply(%v, %v) = %v, %v, %v; want %v, %v, %v", before, r, got, reply, ok, want, wantReply, wantOK)
	}
	if !same(s, before) {
		t.Errorf("Apply(_, %v) turned %v into %v", r, before, s)
	}
}

// wantNotDone holds Apply to a request that is told so much and not executed.
func wantNotDone(t *testing.T, s state, r api.Req, want api.Reply) {
	t.Helper()
	wantApply(t, s, r, s, want, false)
}

// wantDone holds Apply to a request that is executed, told so much, and turns s
// in this way; and to the same one that comes again.
func wantDone(t *testing.T, s state, r api.Req, want api.Reply, turns ...func(s *state)) {
	t.Helper()
	wanted := turned(copyOf(s), turns...)
	keep(&wanted, api.Memo{Client: r.Client, Seq: r.Seq, Reply: want})
	wantApply(t, s, r, wanted, want, true)
	wantRight(t, wanted, true)
	wantNotDone(t, wanted, r, want)
}

// keep has m as the memo of its client.
func keep(s *state, m api.Memo) {
	s.Memos = slices.DeleteFunc(s.Memos, func(x api.Memo) bool { return x.Client == m.Client })
	s.Memos = append(s.Memos, m)
	slices.SortFunc(s.Memos, func(x, y api.Memo) int { return x.Client - y.Client })
}

// renewed sets when the sessions at these places were renewed to the time.
func renewed(at ...int) func(s *state) {
	return func(s *state) {
		for _, i := range at {
			s.Sessions[i].Renewed = s.Time
		}
	}
}

// What client 2 of busy holds, and the others.
var (
	ofTwo  = []api.Grant{grant("b", 30), grant("f", 12)}
	ofZero = []api.Grant{grant("d", 7)}
)

// 10.3: which requests are executed

func TestApplyOfNoRequests(t *testing.T) {
	var wrong []api.Req
	for _, client := range []int{math.MinInt, -1, 8, 255, 256, math.MaxInt} {
		wrong = append(wrong, ask(client, 50, api.Open, 0, ""), ask(client, 50, api.Keep, 20, ""))
	}
	for _, seq := range []int{math.MinInt, -1, 0, api.High + 1, math.MaxInt} {
		wrong = append(wrong, ask(2, seq, api.Keep, 20, ""), ask(5, seq, api.Keep, 13, ""), ask(4, seq, api.Open, 0, ""))
	}
	for _, kind := range []int{math.MinInt, -1, 0, 7, 256 + api.Keep, math.MaxInt} {
		wrong = append(wrong, ask(2, 50, kind, 20, ""), ask(2, 50, kind, 20, "b"), ask(2, 50, kind, 0, ""))
	}
	for _, num := range []int{math.MinInt, -1, 1, 20, api.High + 1} {
		wrong = append(wrong, ask(2, 50, api.Open, num, ""), ask(4, 50, api.Open, num, ""))
	}
	for _, num := range []int{math.MinInt, -1, 0, api.High + 1, math.MaxInt} {
		for _, kind := range []int{api.Keep, api.Close} {
			wrong = append(wrong, ask(2, 50, kind, num, ""))
		}
		for _, kind := range []int{api.Take, api.Try, api.Free} {
			wrong = append(wrong, ask(2, 50, kind, num, "b"))
		}
	}
	for _, name := range []string{"b", "B", "abcdefghijklm"} {
		wrong = append(wrong, ask(4, 50, api.Open, 0, name), ask(2, 50, api.Keep, 20, name), ask(2, 50, api.Close, 20, name))
	}
	for _, name := range []string{"", "B", "b ", "b\x00", "bé", "abcdefghijklm", strings.Repeat("b", 1<<16)} {
		for _, kind := range []int{api.Take, api.Try, api.Free} {
			wrong = append(wrong, ask(2, 50, kind, 20, name))
		}
	}
	for _, r := range wrong {
		for _, s := range []state{{}, busy(), crowded()} {
			wantNotDone(t, s, r, told(api.ErrArg, 0, 0))
		}
	}
	// It is not well-formed before it is Old or Same.
	wantNotDone(t, busy(), ask(0, 5, api.Keep, 0, ""), told(api.ErrArg, 0, 0))
	wantNotDone(t, busy(), ask(0, 4, api.Keep, 0, ""), told(api.ErrArg, 0, 0))
}

func TestApplyOfOldRequests(t *testing.T) {
	for _, c := range []struct{ client, seq int }{{0, 1}, {0, 4}, {2, 1}, {2, 8}, {6, 1}, {6, 39}} {
		for kind := api.Open; kind <= api.Close; kind++ {
			wantNotDone(t, busy(), askRightly(busy(), c.client, c.seq, kind, "b"), api.Reply{})
		}
	}
}

// askRightly makes a well-formed request with the number of the client's
// session, or 1 if it has none.
func askRightly(s state, client, seq, kind int, name string) api.Req {
	num := 1
	for _, x := range s.Sessions {
		if x.Client == client {
			num = x.Num
		}
	}
	if kind == api.Open {
		num = 0
	}
	if kind == api.Open || kind == api.Keep || kind == api.Close {
		name = ""
	}
	return ask(client, seq, kind, num, name)
}

// The same one is told the same, whatever is asked, and whatever it would be now.
func TestApplyOfTheSameRequests(t *testing.T) {
	for kind := api.Open; kind <= api.Close; kind++ {
		for _, name := range []string{"a", "b", "d"} {
			wantNotDone(t, busy(), askRightly(busy(), 0, 5, kind, name), told(api.ErrWait, 11, 1, grant("d", 7)))
			wantNotDone(t, busy(), askRightly(busy(), 2, 9, kind, name), told(api.OK, 20, 0, ofTwo...))
			wantNotDone(t, busy(), askRightly(busy(), 3, 1, kind, name), told(api.OK, 4, 0))
			wantNotDone(t, busy(), askRightly(busy(), 6, 40, kind, name), told(api.ErrSession, 0, 0))
			wantNotDone(t, crowded(), askRightly(crowded(), 7, 2, kind, name), told(api.ErrTwice, 5, 0, grant("a", 2), grant("c", 1)))
		}
	}
	// Its session is another one now, or gone.
	s := turned(busy(), func(s *state) {
		s.Memos[1] = said(2, 9, api.ErrBusy, 3, 2, grant("q", 1), grant("z", 2))
		s.Memos[3] = said(6, 40, api.ErrWait, 2, 1, grant("z", 2))
	})
	wantNotDone(t, s, ask(2, 9, api.Keep, 20, ""), s.Memos[1].Reply)
	wantNotDone(t, s, ask(6, 40, api.Open, 0, ""), s.Memos[3].Reply)
}

// New ones are executed: the next number, a far one, and that of a client
// without a memo, first and last of all.
func TestApplyOfNewRequests(t *testing.T) {
	for _, seq := range []int{10, 11, 1 << 40, api.High} {
		wantDone(t, busy(), ask(2, seq, api.Keep, 20, ""), told(api.OK, 20, 0, ofTwo...), renewed(1))
	}
	for _, seq := range []int{1, 2, api.High} {
		wantDone(t, busy(), ask(5, seq, api.Keep, 13, ""), told(api.OK, 13, 0), renewed(3))
		wantDone(t, busy(), ask(7, seq, api.Keep, 13, ""), told(api.ErrSession, 0, 0))
		wantDone(t, busy(), ask(1, seq, api.Keep, 13, ""), told(api.ErrSession, 0, 0))
		wantDone(t, crowded(), ask(0, seq, api.Keep, 13, ""), told(api.ErrSession, 0, 0))
	}
	// Whatever it was told.
	wantDone(t, busy(), ask(2, 10, api.Open, 0, ""), told(api.ErrTwice, 20, 0, ofTwo...))
	wantNotDone(t, turned(busy(), func(s *state) { s.Memos[1].Seq = api.High }), ask(2, api.High, api.Keep, 20, ""), told(api.OK, 20, 0, ofTwo...))
}

// 10.3: Open

func TestOpen(t *testing.T) {
	wantDone(t, state{}, ask(3, 1, api.Open, 0, ""), told(api.OK, 1, 0), func(s *state) {
		s.Num = 1
		s.Sessions = []api.Session{opened(3, 1, 0)}
	})
	for client, at := range map[int]int{1: 1, 4: 3, 6: 4, 7: 4} {
		wantDone(t, busy(), ask(client, 41, api.Open, 0, ""), told(api.OK, 21, 0), func(s *state) {
			s.Num = 21
			s.Sessions = slices.Insert(s.Sessions, at, opened(client, 21, 100))
		})
	}
	// The next number follows Num, not the greatest there is; Num may be as great as something is promised for.
	for _, num := range []int{0, 20, 500, api.High - 1000} {
		wantDone(t, state{Time: 7, Num: num}, ask(0, 9, api.Open, 0, ""), told(api.OK, num+1, 0), func(s *state) {
			s.Num = num + 1
			s.Sessions = []api.Session{opened(0, num+1, 7)}
		})
	}
	// At the last time that there is.
	wantDone(t, state{Time: api.High}, ask(0, 9, api.Open, 0, ""), told(api.OK, 1, 0), func(s *state) {
		s.Num = 1
		s.Sessions = []api.Session{opened(0, 1, api.High)}
	})
}

// A client that has a session keeps it as it is: it is not renewed.
func TestOpenTwice(t *testing.T) {
	wantDone(t, busy(), ask(0, 6, api.Open, 0, ""), told(api.ErrTwice, 11, 0, ofZero...))
	wantDone(t, busy(), ask(2, 10, api.Open, 0, ""), told(api.ErrTwice, 20, 0, ofTwo...))
	wantDone(t, busy(), ask(3, 2, api.Open, 0, ""), told(api.ErrTwice, 4, 0))
	wantDone(t, busy(), ask(5, 1, api.Open, 0, ""), told(api.ErrTwice, 13, 0))
	// Ahead of ErrFull, where both apply.
	wantDone(t, crowded(), ask(1, 3, api.Open, 0, ""), told(api.ErrTwice, 6, 0))
	wantDone(t, crowded(), ask(3, 3, api.Open, 0, ""), told(api.ErrTwice, 2, 0, grant("b", 8)))
	wantDone(t, crowded(), ask(7, 3, api.Open, 0, ""), told(api.ErrTwice, 5, 0, grant("a", 2), grant("c", 1)))
}

func TestOpenFull(t *testing.T) {
	for _, client := range []int{0, 2, 5} {
		wantDone(t, crowded(), ask(client, 3, api.Open, 0, ""), told(api.ErrFull, 0, 0))
	}
	// As many as there may be, one after the other, and one more.
	s := state{Time: 4}
	for client := range 8 {
		r := ask(client, 1, api.Open, 0, "")
		if client < 5 {
			wantDone(t, s, r, told(api.OK, client+1, 0), func(s *state) {
				s.Num = client + 1
				s.Sessions = append(s.Sessions, opened(client, client+1, 4))
			})
		} else {
			wantDone(t, s, r, told(api.ErrFull, 0, 0))
		}
		s, _, _ = auto.Apply(s, r)
	}
}

// 10.3: all other commands, and whose session it is

func TestWithoutTheSession(t *testing.T) {
	for kind := api.Keep; kind <= api.Close; kind++ {
		name := ""
		if kind == api.Take || kind == api.Try || kind == api.Free {
			name = "b"
		}
		// Clients with no session, with any number.
		for _, client := range []int{1, 4, 6, 7} {
			for _, num := range []int{1, 11, 20, 21, api.High} {
				wantDone(t, busy(), ask(client, 41, kind, num, name), told(api.ErrSession, 0, 0))
			}
		}
		// Clients with another number than that: one that was, is another client's, or will be.
		for _, num := range []int{1, 19, 11, 4, 21, api.High} {
			wantDone(t, busy(), ask(2, 10, kind, num, name), told(api.ErrSession, 0, 0))
		}
		wantDone(t, busy(), ask(0, 6, kind, 20, name), told(api.ErrSession, 0, 0))
		wantDone(t, crowded(), ask(7, 3, kind, 4, name), told(api.ErrSession, 0, 0))
		wantDone(t, state{}, ask(0, 1, kind, 1, name), told(api.ErrSession, 0, 0))
	}
}

func TestKeep(t *testing.T) {
	wantDone(t, busy(), ask(0, 6, api.Keep, 11, ""), told(api.OK, 11, 0, ofZero...), renewed(0))
	wantDone(t, busy(), ask(2, 10, api.Keep, 20, ""), told(api.OK, 20, 0, ofTwo...), renewed(1))
	wantDone(t, busy(), ask(3, 2, api.Keep, 4, ""), told(api.OK, 4, 0))
	wantDone(t, busy(), ask(5, 1, api.Keep, 13, ""), told(api.OK, 13, 0), renewed(3))
	// One that was renewed later than the time stays so (6.1).
	later := turned(busy(), func(s *state) { s.Sessions[0].Renewed = 101 })
	wantDone(t, later, ask(0, 6, api.Keep, 11, ""), told(api.OK, 11, 0, ofZero...))
	// The last time there is, and the first one.
	wantDone(t, turned(busy(), func(s *state) { s.Time = api.High }), ask(0, 6, api.Keep, 11, ""), told(api.OK, 11, 0, ofZero...), renewed(0))
	wantDone(t, turned(busy(), func(s *state) { s.Time = 0 }), ask(0, 6, api.Keep, 11, ""), told(api.OK, 11, 0, ofZero...))
}

// 10.3: Take and Try

func TestTakeOfAFreeLock(t *testing.T) {
	for _, kind := range []int{api.Take, api.Try} {
		for name, at := range map[string]int{"a": 0, "c": 1, "e": 2, "g": 3, "abcdefghijkl": 0, "-": 0} {
			wantDone(t, busy(), ask(5, 1, kind, 13, name), told(api.OK, 13, 0, grant(name, 31)), renewed(3), func(s *state) {
				s.Token = 31
				s.Locks = slices.Insert(s.Locks, at, held(name, 5, 31))
			})
		}
		// Held has all that it holds, in the order of names, and nothing that it waits for.
		wantDone(t, busy(), ask(2, 10, kind, 20, "c"), told(api.OK, 20, 0, grant("b", 30), grant("c", 31), grant("f", 12)), renewed(1), func(s *state) {
			s.Token = 31
			s.Locks = slices.Insert(s.Locks, 1, held("c", 2, 31))
		})
		// Tokens follow Token, not the greatest there is.
		for _, given := range []int{31, 900, api.High - 1000} {
			s := turned(busy(), func(s *state) { s.Token = given })
			wantDone(t, s, ask(0, 6, kind, 11, "a"), told(api.OK, 11, 0, grant("a", given+1), grant("d", 7)), renewed(0), func(s *state) {
				s.Token = given + 1
				s.Locks = slices.Insert(s.Locks, 0, held("a", 0, given+1))
			})
		}
	}
}

func TestTakeOfOnesOwnLock(t *testing.T) {
	for _, kind := range []int{api.Take, api.Try} {
		wantDone(t, busy(), ask(0, 6, kind, 11, "d"), told(api.ErrTwice, 11, 0, ofZero...), renewed(0))
		wantDone(t, busy(), ask(2, 10, kind, 20, "b"), told(api.ErrTwice, 20, 0, ofTwo...), renewed(1))
		wantDone(t, busy(), ask(2, 10, kind, 20, "f"), told(api.ErrTwice, 20, 0, ofTwo...), renewed(1))
	}
}

func TestTakeOfAnothersLock(t *testing.T) {
	joined := func(at int, line ...int) func(s *state) { return func(s *state) { s.Locks[at].Line = line } }
	wantDone(t, busy(), ask(0, 6, api.Take, 11, "f"), told(api.ErrWait, 11, 0, ofZero...), renewed(0), joined(2, 0))
	wantDone(t, busy(), ask(3, 2, api.Take, 4, "f"), told(api.ErrWait, 4, 0), joined(2, 3))
	wantDone(t, busy(), ask(5, 1, api.Take, 13, "d"), told(api.ErrWait, 13, 1), renewed(3), joined(1, 2, 5))
	two := turned(busy(), joined(1, 2, 5))
	wantDone(t, two, ask(3, 2, api.Take, 4, "d"), told(api.ErrWait, 4, 2), joined(1, 2, 5, 3))
	// Who waits already is told how many are ahead, and stays where it is.
	for ahead, client := range []int{5, 0, 3} {
		s := turned(busy(), func(s *state) { s.Memos = nil })
		r := askRightly(s, client, 1, api.Take, "b")
		var grants []api.Grant
		if client == 0 {
			grants = ofZero
		}
		at := slices.Index([]int{0, 2, 3, 5}, client)
		wantDone(t, s, r, told(api.ErrWait, r.Cmd.Session, ahead, grants...), renewed(at))
	}
	wantDone(t, busy(), ask(2, 10, api.Take, 20, "d"), told(api.ErrWait, 20, 0, ofTwo...), renewed(1))
}

// Whoever tries does not wait, be it in the line already.
func TestTryOfAnothersLock(t *testing.T) {
	wantDone(t, busy(), ask(0, 6, api.Try, 11, "b"), told(api.ErrBusy, 11, 0, ofZero...), renewed(0))
	wantDone(t, busy(), ask(0, 6, api.Try, 11, "f"), told(api.ErrBusy, 11, 0, ofZero...), renewed(0))
	wantDone(t, busy(), ask(2, 10, api.Try, 20, "d"), told(api.ErrBusy, 20, 0, ofTwo...), renewed(1))
	wantDone(t, busy(), ask(3, 2, api.Try, 4, "b"), told(api.ErrBusy, 4, 0))
	wantDone(t, busy(), ask(5, 1, api.Try, 13, "d"), told(api.ErrBusy, 13, 0), renewed(3))
}

func TestTakeOfAFullLine(t *testing.T) {
	s := turned(crowded(), func(s *state) { s.Locks[0].Line = row{4, 3, 6} })
	wantDone(t, s, ask(1, 1, api.Take, 6, "a"), told(api.ErrFull, 6, 0), renewed(0))
	wantDone(t, s, ask(1, 1, api.Try, 6, "a"), told(api.ErrBusy, 6, 0), renewed(0))
	wantDone(t, s, ask(3, 1, api.Take, 2, "a"), told(api.ErrWait, 2, 1, grant("b", 8)), renewed(1))
	wantDone(t, s, ask(6, 1, api.Take, 4, "a"), told(api.ErrWait, 4, 2))
	// One that holds something is told of it then.
	s = turned(busy(), func(s *state) { s.Sessions = slices.Insert(s.Sessions, 1, opened(1, 19, 0)); s.Locks[2].Holder = 1 })
	wantDone(t, s, ask(1, 1, api.Take, 19, "b"), told(api.ErrFull, 19, 0, grant("f", 12)), renewed(1))
}

func TestTakeOfAFifthLock(t *testing.T) {
	for _, kind := range []int{api.Take, api.Try} {
		for _, name := range []string{"-", "aa", "e"} {
			wantDone(t, crowded(), ask(1, 1, kind, 6, name), told(api.ErrFull, 6, 0), renewed(0))
			wantDone(t, crowded(), ask(6, 1, kind, 4, name), told(api.ErrFull, 4, 0))
			wantDone(t, crowded(), ask(7, 3, kind, 5, name), told(api.ErrFull, 5, 0, grant("a", 2), grant("c", 1)), renewed(4))
		}
	}
}

// 10.3: Free

func TestFree(t *testing.T) {
	// Its holder: the first who waits has it then, with the next token.
	wantDone(t, busy(), ask(2, 10, api.Free, 20, "b"), told(api.OK, 20, 0, grant("f", 12)), renewed(1), func(s *state) {
		s.Token = 31
		s.Locks[0] = held("b", 5, 31, 0, 3)
	})
	wantDone(t, busy(), ask(0, 6, api.Free, 11, "d"), told(api.OK, 11, 0), renewed(0), func(s *state) {
		s.Token = 31
		s.Locks[1] = held("d", 2, 31)
	})
	// Where nobody waits, the lock is gone, and no token is given.
	wantDone(t, busy(), ask(2, 10, api.Free, 20, "f"), told(api.OK, 20, 0, grant("b", 30)), renewed(1), func(s *state) {
		s.Locks = s.Locks[:2]
	})
	// One that waits: first, in the middle and last.
	for at, client := range []int{5, 0, 3} {
		s := turned(busy(), func(s *state) { s.Memos = nil; s.Time = 60 })
		r := askRightly(s, client, 1, api.Free, "b")
		var grants []api.Grant
		if client == 0 {
			grants = ofZero
		}
		wantDone(t, s, r, told(api.OK, r.Cmd.Session, 0, grants...), func(s *state) { s.Locks[0].Line = slices.Delete(s.Locks[0].Line, at, at+1) })
	}
	// Token may be as great as something is promised for.
	s := turned(busy(), func(s *state) { s.Token = api.High - 1000 })
	wantDone(t, s, ask(2, 10, api.Free, 20, "b"), told(api.OK, 20, 0, grant("f", 12)), renewed(1), func(s *state) {
		s.Token = api.High - 999
		s.Locks[0] = held("b", 5, api.High-999, 0, 3)
	})
}

func TestFreeOfNothing(t *testing.T) {
	wantDone(t, busy(), ask(0, 6, api.Free, 11, "f"), told(api.ErrNone, 11, 0, ofZero...), renewed(0))
	wantDone(t, busy(), ask(0, 6, api.Free, 11, "c"), told(api.ErrNone, 11, 0, ofZero...), renewed(0))
	wantDone(t, busy(), ask(2, 10, api.Free, 20, "a"), told(api.ErrNone, 20, 0, ofTwo...), renewed(1))
	wantDone(t, busy(), ask(5, 1, api.Free, 13, "d"), told(api.ErrNone, 13, 0), renewed(3))
	wantDone(t, crowded(), ask(1, 1, api.Free, 6, "a"), told(api.ErrNone, 6, 0), renewed(0))
}

// 10.3: Close

func TestClose(t *testing.T) {
	// It holds one lock, for which one waits, and waits for another one.
	wantDone(t, busy(), ask(0, 6, api.Close, 11, ""), told(api.OK, 0, 0), withoutZero)
	// It holds two, one of them with a full line, and waits.
	wantDone(t, busy(), ask(2, 10, api.Close, 20, ""), told(api.OK, 0, 0), func(s *state) {
		s.Token = 31
		s.Sessions = slices.Delete(s.Sessions, 1, 2)
		s.Locks = []api.Lock{held("b", 5, 31, 0, 3), held("d", 0, 7)}
	})
	// It waits only, last and first.
	wantDone(t, busy(), ask(3, 2, api.Close, 4, ""), told(api.OK, 0, 0), func(s *state) {
		s.Sessions = slices.Delete(s.Sessions, 2, 3)
		s.Locks[0].Line = row{5, 0}
	})
	wantDone(t, busy(), ask(5, 1, api.Close, 13, ""), told(api.OK, 0, 0), func(s *state) {
		s.Sessions = s.Sessions[:3]
		s.Locks[0].Line = row{0, 3}
	})
	// It has nothing at all.
	wantDone(t, crowded(), ask(1, 1, api.Close, 6, ""), told(api.OK, 0, 0), func(s *state) { s.Sessions = s.Sessions[1:] })
	// It holds two for each of which some wait: as many tokens.
	wantDone(t, crowded(), ask(7, 3, api.Close, 5, ""), told(api.OK, 0, 0), func(s *state) {
		s.Token = 10
		s.Sessions = s.Sessions[:4]
		s.Locks = []api.Lock{held("a", 4, 9, 3), held("b", 3, 8, 6), held("c", 6, 10), held("d", 4, 5)}
	})
	// It is the only one, so that all is gone but the numbers and the memo.
	one := state{Time: 3, Num: 4, Token: 5, Sessions: []api.Session{opened(6, 2, 0)}, Locks: []api.Lock{held("a", 6, 5)}}
	wantDone(t, one, ask(6, 1, api.Close, 2, ""), told(api.OK, 0, 0), func(s *state) { s.Sessions, s.Locks = nil, nil })
}

// After a Close there is no such session any more, and an Open makes another one.
func TestCloseAndOpen(t *testing.T) {
	s, _, _ := auto.Apply(busy(), ask(2, 10, api.Close, 20, ""))
	wantDone(t, s, ask(2, 11, api.Close, 20, ""), told(api.ErrSession, 0, 0))
	wantDone(t, s, ask(2, 11, api.Free, 20, "b"), told(api.ErrSession, 0, 0))
	wantDone(t, s, ask(2, 11, api.Open, 0, ""), told(api.OK, 21, 0), func(s *state) {
		s.Num = 21
		s.Sessions = slices.Insert(s.Sessions, 1, opened(2, 21, 100))
	})
}
