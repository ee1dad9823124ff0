package session_test

import (
	"math"
	"slices"
	"testing"

	"padlock/api"
	"padlock/session"
)

type list = []api.Session

// of makes a list of sessions: of each its client, its number, and when it was renewed.
func of(ns ...int) list {
	var l list
	for s := range slices.Chunk(ns, 3) {
		l = append(l, api.Session{Client: s[0], Num: s[1], Renewed: s[2]})
	}
	return l
}

// rising returns n sessions of the clients from 0 on, with the numbers from 1 on.
func rising(n int) list {
	var l list
	for i := range n {
		l = append(l, api.Session{Client: i, Num: i + 1, Renewed: 10 * i})
	}
	return l
}

// three returns a list with room ahead of, among and behind its sessions.
func three() list {
	return of(1, 7, 20, 3, 9, 5, 6, 2, 30)
}

// Numbers that no client, no session and no time is.
var (
	noClients = []int{math.MinInt, -256, -8, -2, -1, 8, 9, 15, 255, 256, 257, 1 << 32, api.High, math.MaxInt}
	noNums    = []int{math.MinInt, -api.High, -5, -1, 0, api.High + 1, 1 << 62, math.MaxInt}
	noTimes   = []int{math.MinInt, -api.High, -1 << 32, -5, -1, api.High + 1, 1 << 62, math.MaxInt}
)

func wantRight(t *testing.T, l list, want bool) {
	t.Helper()
	if got := session.Right(l); got != want {
		t.Errorf("Right(%v) = %v; want %v", l, got, want)
	}
}

func wantFind(t *testing.T, l list, client int, want api.Session, wantOK bool) {
	t.Helper()
	if s, ok := session.Find(l, client); s != want || ok != wantOK {
		t.Errorf("Find(%v, %d) = %v, %v; want %v, %v", l, client, s, ok, want, wantOK)
	}
}

func wantOpen(t *testing.T, l list, client, num, now int, want list, wantCode api.Errno) {
	t.Helper()
	if got, code := session.Open(l, client, num, now); !slices.Equal(got, want) || code != wantCode {
		t.Errorf("Open(%v, %d, %d, %d) = %v, %d; want %v, %d", l, client, num, now, got, code, want, wantCode)
	}
}

func wantRenew(t *testing.T, l list, client, now int, want list, wantCode api.Errno) {
	t.Helper()
	if got, code := session.Renew(l, client, now); !slices.Equal(got, want) || code != wantCode {
		t.Errorf("Renew(%v, %d, %d) = %v, %d; want %v, %d", l, client, now, got, code, want, wantCode)
	}
}

func wantClose(t *testing.T, l list, client int, want list, wantCode api.Errno) {
	t.Helper()
	if got, code := session.Close(l, client); !slices.Equal(got, want) || code != wantCode {
		t.Errorf("Close(%v, %d) = %v, %d; want %v, %d", l, client, got, code, want, wantCode)
	}
}

func wantDue(t *testing.T, l list, now, lease int, want ...int) {
	t.Helper()
	if got := session.Due(l, now, lease); !slices.Equal(got, want) {
		t.Errorf("Due(%v, %d, %d) = %v; want %v", l, now, lease, got, want)
	}
}

// 6.1: Right

func TestRight(t *testing.T) {
	for _, c := range []struct {
		l    list
		want bool
	}{
		{nil, true},
		{list{}, true},
		{of(2, 1, 5), true},
		{of(0, 1, 0), true},
		{of(7, api.High, api.High), true},
		{three(), true},
		{of(0, 9, 0, 3, 2, api.High, 7, api.High, 1), true},
		{of(3, 5, 0, 4, 4, 0, 5, 3, 0, 6, 2, 0, 7, 1, 0), true},           // numbers that fall
		{of(0, 1, 9, 1, 2, 9, 2, 3, 9), true},                             // renewed at once
		{of(0, 5, 1, 1, 1, 5), true},                                      // a number that is a time too
		{list{{}}, false},                                                 // the zero session has no number
		{of(2, 1, 5, 3, 1, 5), false},                                     // the same number
		{of(2, 1, 5, 2, 1, 5), false},                                     // the same session
		{of(2, 1, 5, 2, 2, 5), false},                                     // the same client
		{of(3, 1, 5, 2, 2, 5), false},                                     // clients that fall
		{of(0, 1, 0, 1, 2, 0, 2, 3, 0, 3, 4, 0, 4, 1, 0), false},          // the first number again, at the end
		{of(0, 1, 0, 4, 2, 0, 3, 3, 0), false},                            // clients that rise and fall
		{of(2, 1, 0, 4, 2, 0, 3, 3, 0, 5, 4, 0), false},                   // the same, and rise again
		{of(0, 1, 0, 1, 2, 0, 2, 3, 0, 3, 4, 0, 4, 5, 0, 5, 6, 0), false}, // six
	} {
		wantRight(t, c.l, c.want)
	}
}

// Lists of each length are right but for the length.
func TestRightOfEachLength(t *testing.T) {
	for n := range api.MaxClients + 1 {
		wantRight(t, rising(n), n <= 5)
	}
	wantRight(t, make(list, 1<<16), false)
}

// Each field of each session of lists of each length, at its edges and beyond.
func TestRightOfEachField(t *testing.T) {
	for n := 1; n <= 5; n++ {
		for at := range n {
			with := func(turn func(s *api.Session)) list {
				l := rising(n)
				turn(&l[at])
				return l
			}
			for _, v := range noClients {
				wantRight(t, with(func(s *api.Session) { s.Client = v }), false)
			}
			for _, v := range noNums {
				wantRight(t, with(func(s *api.Session) { s.Num = v }), false)
			}
			for _, v := range noTimes {
				wantRight(t, with(func(s *api.Session) { s.Renewed = v }), false)
			}
			for _, v := range []int{0, 1, api.High - 1, api.High} {
				wantRight(t, with(func(s *api.Session) { s.Renewed = v }), true)
			}
			for _, v := range []int{n + 1, 1 << 32, api.High - 1, api.High} {
				wantRight(t, with(func(s *api.Session) { s.Num = v }), true)
			}
		}
	}
	for client := range api.MaxClients {
		wantRight(t, of(client, 1, 0), true)
		wantRight(t, of(client, api.High, api.High), true)
	}
}

// Each two sessions of lists of each length, with the same number, with the
// same client, and with each other's place.
func TestRightOfEachTwo(t *testing.T) {
	for n := 2; n <= 5; n++ {
		for i := range n {
			for j := range i {
				sameNum, sameClient, turned := rising(n), rising(n), rising(n)
				sameNum[i].Num = sameNum[j].Num
				sameClient[i].Client = sameClient[j].Client
				turned[i], turned[j] = turned[j], turned[i]
				wantRight(t, sameNum, false)
				wantRight(t, sameClient, false)
				wantRight(t, turned, false)
				nums := rising(n)
				nums[i].Num, nums[j].Num = nums[j].Num, nums[i].Num
				wantRight(t, nums, true)
			}
		}
	}
}

// 6.1: Find

func TestFind(t *testing.T) {
	for _, l := range []list{nil, {}, of(2, 1, 5), three(), rising(5), of(3, 5, 0, 4, 4, 0, 5, 3, 0, 6, 2, 0, 7, 1, 0)} {
		has := 0
		for client := range api.MaxClients {
			var want api.Session
			for _, s := range l {
				if s.Client == client {
					want = s
					has++
				}
			}
			wantFind(t, l, client, want, want.Num != 0)
		}
		if has != len(l) {
			t.Errorf("%d of the %d sessions of %v were looked for", has, len(l), l)
		}
		for _, client := range noClients {
			wantFind(t, l, client, api.Session{}, false)
		}
	}
	wantFind(t, three(), 4, api.Session{}, false)
	wantFind(t, three(), 3, api.Session{Client: 3, Num: 9, Renewed: 5}, true)
	wantFind(t, of(0, 7, 0), 0, api.Session{Num: 7}, true)
}

// 6.1: Open

func TestOpen(t *testing.T) {
	wantOpen(t, nil, 2, 1, 5, of(2, 1, 5), api.OK)
	wantOpen(t, list{}, 2, 1, 5, of(2, 1, 5), api.OK)
	wantOpen(t, nil, 0, 1, 0, of(0, 1, 0), api.OK)
	wantOpen(t, nil, 7, api.High, api.High, of(7, api.High, api.High), api.OK)
	wantOpen(t, of(2, 7, 8), 1, 8, 7, of(1, 8, 7, 2, 7, 8), api.OK) // a number that is a time of another
}

func TestOpenAtEachPlace(t *testing.T) {
	wantOpen(t, three(), 0, 4, 6, of(0, 4, 6, 1, 7, 20, 3, 9, 5, 6, 2, 30), api.OK)
	wantOpen(t, three(), 2, 4, 6, of(1, 7, 20, 2, 4, 6, 3, 9, 5, 6, 2, 30), api.OK)
	wantOpen(t, three(), 4, 4, 6, of(1, 7, 20, 3, 9, 5, 4, 4, 6, 6, 2, 30), api.OK)
	wantOpen(t, three(), 5, 4, 6, of(1, 7, 20, 3, 9, 5, 5, 4, 6, 6, 2, 30), api.OK)
	wantOpen(t, three(), 7, 4, 6, of(1, 7, 20, 3, 9, 5, 6, 2, 30, 7, 4, 6), api.OK)
}

// Lists that are one short of full, and full ones.
func TestOpenOfTheLast(t *testing.T) {
	wantOpen(t, rising(4), 4, 9, 1, append(rising(4), api.Session{Client: 4, Num: 9, Renewed: 1}), api.OK)
	wantOpen(t, rising(4), 7, 9, 1, append(rising(4), api.Session{Client: 7, Num: 9, Renewed: 1}), api.OK)
	wantOpen(t, of(1, 1, 0, 2, 2, 0, 3, 3, 0, 4, 4, 0), 0, 5, 0, of(0, 5, 0, 1, 1, 0, 2, 2, 0, 3, 3, 0, 4, 4, 0), api.OK)
	for client := 5; client < 8; client++ {
		wantOpen(t, rising(5), client, 9, 1, nil, api.ErrFull)
	}
	for client := range 3 {
		wantOpen(t, of(3, 1, 0, 4, 2, 0, 5, 3, 0, 6, 4, 0, 7, 5, 0), client, 9, 1, nil, api.ErrFull)
	}
	wantOpen(t, of(0, 1, 0, 1, 2, 0, 3, 3, 0, 4, 4, 0, 5, 5, 0), 2, 9, 1, nil, api.ErrFull)
}

func TestOpenOfWhatMayNotBe(t *testing.T) {
	for _, l := range []list{nil, {}, of(2, 1, 5), three(), rising(5)} {
		for _, client := range noClients {
			wantOpen(t, l, client, 11, 5, nil, api.ErrArg)
		}
		for _, num := range noNums {
			wantOpen(t, l, 4, num, 5, nil, api.ErrArg)
		}
		for _, now := range noTimes {
			wantOpen(t, l, 4, 11, now, nil, api.ErrArg)
		}
	}
	for _, num := range []int{1, 2, 11, api.High - 1, api.High} {
		for _, now := range []int{0, 1, 11, api.High - 1, api.High} {
			wantOpen(t, of(2, 7, 5), 4, num, now, of(2, 7, 5, 4, num, now), api.OK)
		}
	}
}

func TestOpenWithTheNumberOfAnother(t *testing.T) {
	for _, s := range three() {
		for _, client := range []int{0, 2, 4, 5, 7} {
			wantOpen(t, three(), client, s.Num, 50, nil, api.ErrArg)
		}
	}
	wantOpen(t, of(2, api.High, 5), 4, api.High, 5, nil, api.ErrArg)
	wantOpen(t, of(2, 1, 5), 4, 1, 5, nil, api.ErrArg)
}

func TestOpenOfWhoHasASession(t *testing.T) {
	for _, l := range []list{of(0, 1, 5), of(2, 1, 5), of(7, 1, 5), three(), rising(4), rising(5)} {
		for _, s := range l {
			wantOpen(t, l, s.Client, 11, 50, nil, api.ErrTwice)
			wantOpen(t, l, s.Client, s.Num, 50, nil, api.ErrTwice) // its own number is that of no other
			wantOpen(t, l, s.Client, s.Num, s.Renewed, nil, api.ErrTwice)
		}
	}
}

// R2: ErrArg comes ahead of ErrTwice, and that ahead of ErrFull.
func TestOpenTellsTheFirstError(t *testing.T) {
	for _, c := range []struct {
		l                list
		client, num, now int
		want             api.Errno
	}{
		{three(), 3, 7, 50, api.ErrArg},                     // it has a session, another has the number
		{three(), 3, 2, 50, api.ErrArg},                     // the same, of one behind it
		{three(), 3, 0, 50, api.ErrArg},                     // it has a session, no number
		{three(), 3, api.High + 1, 50, api.ErrArg},          // the same
		{three(), 3, 9, -1, api.ErrArg},                     // it has a session with this number, no time
		{three(), 3, 11, api.High + 1, api.ErrArg},          // it has a session, no time
		{rising(5), 8, 11, 50, api.ErrArg},                  // full, no client
		{rising(5), -1, 11, 50, api.ErrArg},                 // the same
		{rising(5), 6, 0, 50, api.ErrArg},                   // full, no number
		{rising(5), 6, 11, -1, api.ErrArg},                  // full, no time
		{rising(5), 6, 3, 50, api.ErrArg},                   // full, another has the number
		{rising(5), 2, 5, 50, api.ErrArg},                   // full, it has a session, another has the number
		{rising(5), 2, 0, -1, api.ErrArg},                   // full, it has a session, no number, no time
		{rising(5), 2, 11, 50, api.ErrTwice},                // full, it has a session
		{rising(5), 0, 1, 50, api.ErrTwice},                 // the same, with its own number
		{rising(5), 4, 5, 50, api.ErrTwice},                 // the same
		{rising(5), 6, 11, 50, api.ErrFull},                 // full
		{rising(5), 7, api.High, 0, api.ErrFull},            // the same
		{rising(5), 7, 6, api.High, api.ErrFull},            // the same
		{rising(4), 7, 4, api.High, api.ErrArg},             // one short of full, another has the number
		{rising(4), 3, 5, api.High, api.ErrTwice},           // one short of full, it has a session
		{nil, 8, 0, -1, api.ErrArg},                         // nothing is right
		{list{}, 8, api.High + 1, api.High + 1, api.ErrArg}, // the same
	} {
		wantOpen(t, c.l, c.client, c.num, c.now, nil, c.want)
	}
}

// 6.1: Renew

func TestRenew(t *testing.T) {
	wantRenew(t, of(2, 1, 5), 2, 4, of(2, 1, 5), api.OK)
	wantRenew(t, of(2, 1, 5), 2, 5, of(2, 1, 5), api.OK)
	wantRenew(t, of(2, 1, 5), 2, 6, of(2, 1, 6), api.OK)
	wantRenew(t, of(2, 1, 5), 2, 0, of(2, 1, 5), api.OK)
	wantRenew(t, of(2, 1, 5), 2, api.High, of(2, 1, api.High), api.OK)
	wantRenew(t, of(2, 1, 0), 2, 0, of(2, 1, 0), api.OK)
	wantRenew(t, of(0, 1, 0), 0, 1, of(0, 1, 1), api.OK)
	wantRenew(t, of(7, 1, api.High), 7, api.High, of(7, 1, api.High), api.OK)
	wantRenew(t, of(7, 1, api.High), 7, api.High-1, of(7, 1, api.High), api.OK)
	wantRenew(t, of(7, 1, api.High-1), 7, api.High, of(7, 1, api.High), api.OK)
	wantRenew(t, three(), 1, 40, of(1, 7, 40, 3, 9, 5, 6, 2, 30), api.OK)
	wantRenew(t, three(), 3, 10, of(1, 7, 20, 3, 9, 10, 6, 2, 30), api.OK)
	wantRenew(t, three(), 6, 31, of(1, 7, 20, 3, 9, 5, 6, 2, 31), api.OK)
	wantRenew(t, three(), 1, 10, three(), api.OK)
	wantRenew(t, three(), 3, 4, three(), api.OK)
	wantRenew(t, three(), 6, 30, three(), api.OK)
}

func TestRenewOfEachOfAFullList(t *testing.T) {
	for at := range 5 {
		for _, now := range []int{0, 10*at - 1, 10 * at, 10*at + 1, api.High} {
			if now < 0 {
				continue
			}
			want := rising(5)
			if now > want[at].Renewed {
				want[at].Renewed = now
			}
			wantRenew(t, rising(5), at, now, want, api.OK)
		}
	}
}

func TestRenewOfNone(t *testing.T) {
	for _, l := range []list{nil, {}, of(4, 1, 5), three(), of(1, 1, 5, 3, 2, 5, 4, 3, 5, 6, 4, 5, 7, 5, 5)} {
		for _, client := range append([]int{0, 2, 5}, noClients...) {
			for _, now := range []int{0, 5, api.High} {
				wantRenew(t, l, client, now, nil, api.ErrNone)
			}
		}
	}
}

// R2: ErrArg comes ahead of ErrNone.
func TestRenewTellsTheFirstError(t *testing.T) {
	for _, l := range []list{nil, {}, of(3, 1, 5), three(), rising(5)} {
		for _, client := range append([]int{0, 3, 6}, noClients...) {
			for _, now := range noTimes {
				wantRenew(t, l, client, now, nil, api.ErrArg)
			}
		}
	}
}

// 6.1: Close

func TestClose(t *testing.T) {
	wantClose(t, of(2, 1, 5), 2, nil, api.OK)
	wantClose(t, of(0, 1, 0), 0, nil, api.OK)
	wantClose(t, three(), 1, of(3, 9, 5, 6, 2, 30), api.OK)
	wantClose(t, three(), 3, of(1, 7, 20, 6, 2, 30), api.OK)
	wantClose(t, three(), 6, of(1, 7, 20, 3, 9, 5), api.OK)
	for at := range 5 {
		var want list
		for _, s := range rising(5) {
			if s.Client != at {
				want = append(want, s)
			}
		}
		wantClose(t, rising(5), at, want, api.OK)
	}
}

func TestCloseOfNone(t *testing.T) {
	for _, l := range []list{nil, {}, of(4, 1, 5), three(), of(1, 1, 5, 3, 2, 5, 4, 3, 5, 6, 4, 5, 7, 5, 5)} {
		for _, client := range append([]int{0, 2, 5}, noClients...) {
			wantClose(t, l, client, nil, api.ErrNone)
		}
	}
	wantClose(t, three(), 4, nil, api.ErrNone)
	wantClose(t, three(), 7, nil, api.ErrNone)
	wantClose(t, three(), 9, nil, api.ErrNone) // that is a number, and of no client
}

// 6.2: Due

func TestDue(t *testing.T) {
	wantDue(t, nil, 15, 10)
	wantDue(t, list{}, 15, 0)
	wantDue(t, of(2, 1, 5), 14, 10)
	wantDue(t, of(2, 1, 5), 15, 10, 2)
	wantDue(t, of(2, 1, 5), 16, 10, 2)
	wantDue(t, of(0, 1, 5), 15, 10, 0)
	wantDue(t, of(2, 1, 5), 4, 0)
	wantDue(t, of(2, 1, 5), 5, 0, 2)
	wantDue(t, of(2, 1, 5), 5, 1)
	wantDue(t, of(2, 1, 5), 6, 1, 2)
	wantDue(t, of(2, 1, 0), 0, 0, 2)
	wantDue(t, of(2, 1, 0), 0, 1)
	wantDue(t, of(2, 1, 5), 0, 5) // 0 is 5 less than 5
}

func TestDueOfSome(t *testing.T) {
	wantDue(t, three(), 4, 0)
	wantDue(t, three(), 5, 0, 3)
	wantDue(t, three(), 24, 4, 1, 3)
	wantDue(t, three(), 29, 0, 1, 3)
	wantDue(t, three(), 30, 0, 1, 3, 6)
	wantDue(t, three(), 30, 10, 1, 3)
	wantDue(t, three(), 30, 11, 3)
	wantDue(t, three(), 30, 25, 3)
	wantDue(t, three(), 30, 26)
	wantDue(t, of(0, 1, 9, 2, 2, 7, 5, 3, 9, 7, 4, 7), 10, 3, 2, 7)
	wantDue(t, of(0, 1, 9, 2, 2, 7, 5, 3, 9, 7, 4, 7), 10, 1, 0, 2, 5, 7)
	for n := range 6 {
		for now := range 61 {
			var want []int
			for at := range n {
				if now-10*at >= 15 {
					want = append(want, at)
				}
			}
			wantDue(t, rising(n), now, 15, want...)
		}
	}
}

func TestDueAtTheEdges(t *testing.T) {
	l := of(1, 1, 0, 2, 2, 1, 4, 3, api.High-1, 7, 4, api.High)
	wantDue(t, l, 0, 0, 1)
	wantDue(t, l, 1, 0, 1, 2)
	wantDue(t, l, api.High, 0, 1, 2, 4, 7)
	wantDue(t, l, api.High, 1, 1, 2, 4)
	wantDue(t, l, api.High, 2, 1, 2)
	wantDue(t, l, api.High, api.High-1, 1, 2)
	wantDue(t, l, api.High, api.High, 1)
	wantDue(t, l, api.High-1, 0, 1, 2, 4)
	wantDue(t, l, api.High-1, api.High-2, 1, 2)
	wantDue(t, l, api.High-1, api.High-1, 1)
	wantDue(t, l, api.High-1, api.High)
	wantDue(t, l, 0, api.High)
}

func TestDueOfWhatMayNotBe(t *testing.T) {
	for _, l := range []list{nil, {}, of(2, 1, 0), three(), rising(5)} {
		for _, v := range noTimes {
			for _, w := range append([]int{0, 1, 30, api.High}, noTimes...) {
				wantDue(t, l, v, w)
				wantDue(t, l, w, v)
			}
		}
	}
}

// 6.3

// Whoever was renewed at a time is not due until a lease later, and then it is.
func TestWhoRenewsInTimeIsNotDue(t *testing.T) {
	for _, lease := range []int{1, 2, 7, 1000, 1 << 32, api.High - 40, api.High} {
		for _, now := range []int{30, 31, 40, api.High - lease, api.High - 1, api.High} {
			if now < 30 {
				continue // client 6 was renewed at 30 already
			}
			l, code := session.Renew(three(), 6, now)
			if code != api.OK {
				t.Errorf("Renew at %d ends with code %d", now, code)
			}
			for _, then := range []int{now, now + lease/2, now + lease - 1, now + lease} {
				isDue := slices.Contains(session.Due(l, then, lease), 6)
				if want := then == now+lease && then <= api.High; isDue != want {
					t.Errorf("renewed at %d, with the lease %d, client 6 is due at %d: %v", now, lease, then, isDue)
				}
			}
		}
	}
}

// One client renews as late as it may, the other never.
func TestWhoRenewsAndWhoDoesNot(t *testing.T) {
	const lease = 10
	l := of(2, 1, 0, 5, 2, 0)
	for now := range 100 {
		want := []int{5}
		if now < lease {
			want = nil
		}
		wantDue(t, l, now, lease, want...)
		if now%(lease-1) == 0 {
			l, _ = session.Renew(l, 2, now)
		}
	}
	wantDue(t, l, 99+lease, lease, 2, 5)
}

func TestOpenedAndClosed(t *testing.T) {
	tried := 0
	for _, l := range []list{nil, {}, of(2, 1, 5), three(), rising(4), of(3, 5, 0, 4, 4, 0, 6, 2, 0, 7, 1, 0)} {
		for client := range api.MaxClients {
			for _, num := range []int{6, 11, api.High} {
				opened, code := session.Open(l, client, num, 50)
				if code != api.OK {
					wantOpen(t, l, client, num, 50, nil, api.ErrTwice)
					continue
				}
				tried++
				if !session.Right(opened) {
					t.Errorf("Open made %v of %v", opened, l)
				}
				wantFind(t, opened, client, api.Session{Client: client, Num: num, Renewed: 50}, true)
				renewed, _ := session.Renew(opened, client, 60)
				wantClose(t, opened, client, l, api.OK)
				wantClose(t, renewed, client, l, api.OK)
			}
		}
	}
	if want := 3 * (8 + 8 + 7 + 5 + 4 + 4); tried != want {
		t.Errorf("%d sessions were opened; want %d", tried, want)
	}
}
