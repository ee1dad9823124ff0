package line_test

import (
	"math"
	"slices"
	"testing"

	"padlock/api"
	"padlock/line"
)

type row = []int

// Numbers that no client is.
var noClients = row{math.MinInt, -256, -8, -2, -1, 8, 9, 15, 255, 256, 257, 1 << 32, api.High, math.MaxInt}

// anyone returns numbers of all kinds: all clients, and what none is.
func anyone() row {
	return append(row{0, 1, 2, 3, 4, 5, 6, 7}, noClients...)
}

// eachLine returns all lines that are right: a nil one, and each that can be
// made of the clients. Each call makes them anew.
func eachLine() []row {
	all := []row{nil, {}}
	for a := range 8 {
		all = append(all, row{a})
		for b := range 8 {
			if b == a {
				continue
			}
			all = append(all, row{a, b})
			for c := range 8 {
				if c != a && c != b {
					all = append(all, row{a, b, c})
				}
			}
		}
	}
	return all
}

func wantRight(t *testing.T, l row, want bool) {
	t.Helper()
	if got := line.Right(l); got != want {
		t.Errorf("Right(%v) = %v; want %v", l, got, want)
	}
}

func wantAhead(t *testing.T, l row, client int, want int, wantOK bool) {
	t.Helper()
	if n, ok := line.Ahead(l, client); n != want || ok != wantOK {
		t.Errorf("Ahead(%v, %d) = %d, %v; want %d, %v", l, client, n, ok, want, wantOK)
	}
}

func wantJoin(t *testing.T, l row, client int, want row, wantN int, wantCode api.Errno) {
	t.Helper()
	if got, n, code := line.Join(l, client); !slices.Equal(got, want) || n != wantN || code != wantCode {
		t.Errorf("Join(%v, %d) = %v, %d, %d; want %v, %d, %d", l, client, got, n, code, want, wantN, wantCode)
	}
}

// wantNoJoin holds Join to a code, beside which all else is zero.
func wantNoJoin(t *testing.T, l row, client int, want api.Errno) {
	t.Helper()
	wantJoin(t, l, client, nil, 0, want)
}

func wantLeave(t *testing.T, l row, client int, want row, wantOK bool) {
	t.Helper()
	if got, ok := line.Leave(l, client); !slices.Equal(got, want) || ok != wantOK {
		t.Errorf("Leave(%v, %d) = %v, %v; want %v, %v", l, client, got, ok, want, wantOK)
	}
}

func wantNext(t *testing.T, l row, want int, wantRest row, wantOK bool) {
	t.Helper()
	if client, rest, ok := line.Next(l); client != want || !slices.Equal(rest, wantRest) || ok != wantOK {
		t.Errorf("Next(%v) = %d, %v, %v; want %d, %v, %v", l, client, rest, ok, want, wantRest, wantOK)
	}
}

func wantWithout(t *testing.T, l, gone, want row) {
	t.Helper()
	if got := line.Without(l, gone...); !slices.Equal(got, want) {
		t.Errorf("Without(%v, %v) = %v; want %v", l, gone, got, want)
	}
}

// 7.1: Right

func TestRight(t *testing.T) {
	for _, c := range []struct {
		l    row
		want bool
	}{
		{nil, true},
		{row{}, true},
		{row{0}, true},
		{row{4}, true},
		{row{7}, true},
		{row{-1}, false},
		{row{8}, false},
		{row{4, 1}, true},
		{row{1, 4}, true},
		{row{7, 0}, true},
		{row{4, 4}, false},
		{row{0, 0}, false},
		{row{4, -1}, false},
		{row{4, 8}, false},
		{row{8, 4}, false},
		{row{0, 1, 2}, true},
		{row{7, 6, 5}, true},
		{row{4, 0, 7}, true},
		{row{4, 4, 1}, false},
		{row{1, 4, 4}, false},
		{row{4, 1, 4}, false},
		{row{4, 4, 4}, false},
		{row{0, 1, 2, 3}, false},
		{row{4, 0, 7, 1}, false},
		{row{4, 1, 2, 4}, false},
		{row{0, 1, 2, 3, 4, 5, 6, 7}, false},
		{row{0, 1, 2, 3, 4, 5, 6, 7, 8}, false},
		{make(row, 1<<16), false},
	} {
		wantRight(t, c.l, c.want)
	}
}

func TestRightOfEachLine(t *testing.T) {
	all := eachLine()
	if want := 2 + 8 + 8*7 + 8*7*6; len(all) != want {
		t.Fatalf("there are %d lines; want %d", len(all), want)
	}
	for _, l := range all {
		wantRight(t, l, true)
	}
}

// Each place of lines of each length, with each number that no client is.
func TestRightOfNoClient(t *testing.T) {
	for n := 1; n <= 3; n++ {
		for at := range n {
			for _, v := range noClients {
				l := row{4, 1, 2}[:n]
				l[at] = v
				wantRight(t, l, false)
			}
		}
	}
}

// Each client twice, at each two places of lines of each length.
func TestRightOfEachTwo(t *testing.T) {
	for client := range 8 {
		wantRight(t, row{client, client}, false)
		for other := range 8 {
			wantRight(t, row{client, client, other}, false)
			wantRight(t, row{client, other, client}, false)
			wantRight(t, row{other, client, client}, false)
		}
	}
}

// Lines with one more than there may be, right but for the length.
func TestRightOfTooMany(t *testing.T) {
	for _, l := range eachLine() {
		for client := range 8 {
			if !slices.Contains(l, client) {
				wantRight(t, append(slices.Clone(l), client), len(l) < 3)
			}
		}
	}
}

// 7.1: Ahead

func TestAhead(t *testing.T) {
	wantAhead(t, row{4, 1}, 4, 0, true)
	wantAhead(t, row{4, 1}, 1, 1, true)
	wantAhead(t, row{4, 1}, 2, 0, false)
	wantAhead(t, row{4, 1}, 0, 0, false)
	wantAhead(t, row{4, 1}, -1, 0, false)
	wantAhead(t, row{0}, 0, 0, true)
	wantAhead(t, row{7}, 7, 0, true)
	wantAhead(t, row{7, 0, 3}, 7, 0, true)
	wantAhead(t, row{7, 0, 3}, 0, 1, true)
	wantAhead(t, row{7, 0, 3}, 3, 2, true)
	wantAhead(t, row{7, 0, 3}, 2, 0, false)
}

func TestAheadOfEachLine(t *testing.T) {
	for _, l := range eachLine() {
		for i, client := range l {
			wantAhead(t, l, client, i, true)
		}
		for _, client := range anyone() {
			if !slices.Contains(l, client) {
				wantAhead(t, l, client, 0, false)
			}
		}
	}
}

// 7.1: Join

func TestJoin(t *testing.T) {
	wantJoin(t, nil, 4, row{4}, 0, api.OK)
	wantJoin(t, row{}, 4, row{4}, 0, api.OK)
	wantJoin(t, nil, 0, row{0}, 0, api.OK)
	wantJoin(t, nil, 7, row{7}, 0, api.OK)
	wantJoin(t, row{4}, 2, row{4, 2}, 1, api.OK)
	wantJoin(t, row{2}, 4, row{2, 4}, 1, api.OK)
	wantJoin(t, row{4, 1}, 2, row{4, 1, 2}, 2, api.OK)
	wantJoin(t, row{4, 1}, 0, row{4, 1, 0}, 2, api.OK)
	wantJoin(t, row{4, 1}, 7, row{4, 1, 7}, 2, api.OK)
}

func TestJoinOfEachLine(t *testing.T) {
	for _, l := range eachLine() {
		for client := range 8 {
			switch {
			case slices.Contains(l, client):
				wantNoJoin(t, l, client, api.ErrTwice)
			case len(l) == 3:
				wantNoJoin(t, l, client, api.ErrFull)
			default:
				wantJoin(t, l, client, append(slices.Clone(l), client), len(l), api.OK)
			}
		}
		for _, client := range noClients {
			wantNoJoin(t, l, client, api.ErrArg)
		}
	}
}

// R2: ErrArg comes ahead of ErrTwice, and that ahead of ErrFull.
func TestJoinTellsTheFirstError(t *testing.T) {
	for _, c := range []struct {
		l      row
		client int
		want   api.Errno
	}{
		{nil, -1, api.ErrArg},
		{row{4}, 8, api.ErrArg},
		{row{4, 1, 2}, -1, api.ErrArg}, // full, no client
		{row{4, 1, 2}, 8, api.ErrArg},  // the same
		{row{4, 1, 2}, math.MinInt, api.ErrArg},
		{row{4, 1, 2}, math.MaxInt, api.ErrArg},
		{row{4}, 4, api.ErrTwice},
		{row{4, 1}, 1, api.ErrTwice},
		{row{4, 1, 2}, 4, api.ErrTwice}, // full, it is first
		{row{4, 1, 2}, 1, api.ErrTwice}, // full, it is in the middle
		{row{4, 1, 2}, 2, api.ErrTwice}, // full, it is last
		{row{0, 7, 2}, 0, api.ErrTwice},
		{row{0, 7, 2}, 7, api.ErrTwice},
		{row{4, 1, 2}, 3, api.ErrFull},
		{row{4, 1, 2}, 0, api.ErrFull},
		{row{4, 1, 2}, 7, api.ErrFull},
	} {
		wantNoJoin(t, c.l, c.client, c.want)
	}
}

// 7.1: Leave

func TestLeave(t *testing.T) {
	wantLeave(t, row{4, 1, 2}, 4, row{1, 2}, true)
	wantLeave(t, row{4, 1, 2}, 1, row{4, 2}, true)
	wantLeave(t, row{4, 1, 2}, 2, row{4, 1}, true)
	wantLeave(t, row{4, 1}, 4, row{1}, true)
	wantLeave(t, row{4, 1}, 1, row{4}, true)
	wantLeave(t, row{4}, 4, nil, true)
	wantLeave(t, row{0}, 0, nil, true)
	wantLeave(t, row{7, 0}, 7, row{0}, true)
}

// Whoever is not in the line leaves it as it is.
func TestLeaveOfWhoIsNotThere(t *testing.T) {
	wantLeave(t, nil, 4, nil, false)
	wantLeave(t, row{}, 0, nil, false)
	wantLeave(t, row{4}, 0, row{4}, false)
	wantLeave(t, row{4, 1}, 2, row{4, 1}, false)
	wantLeave(t, row{4, 1, 2}, 0, row{4, 1, 2}, false)
	wantLeave(t, row{4, 1, 2}, 5, row{4, 1, 2}, false)
	wantLeave(t, row{4, 1, 2}, -1, row{4, 1, 2}, false)
	wantLeave(t, row{4, 1, 2}, 8, row{4, 1, 2}, false)
	wantLeave(t, row{4, 1, 2}, 3, row{4, 1, 2}, false) // that is how many they are, and no one in it
}

func TestLeaveOfEachLine(t *testing.T) {
	for _, l := range eachLine() {
		for i, client := range l {
			var want row
			for j, other := range l {
				if j != i {
					want = append(want, other)
				}
			}
			wantLeave(t, l, client, want, true)
		}
		for _, client := range anyone() {
			if !slices.Contains(l, client) {
				wantLeave(t, l, client, l, false)
			}
		}
	}
}

// 7.1: Next

func TestNext(t *testing.T) {
	wantNext(t, nil, 0, nil, false)
	wantNext(t, row{}, 0, nil, false)
	wantNext(t, make(row, 0, 9), 0, nil, false)
	wantNext(t, row{4, 1, 2}[:0], 0, nil, false) // what lies behind its end is not in it
	wantNext(t, row{0}, 0, nil, true)
	wantNext(t, row{4}, 4, nil, true)
	wantNext(t, row{7, 0}, 7, row{0}, true)
	wantNext(t, row{0, 7}, 0, row{7}, true)
	wantNext(t, row{4, 1, 2}, 4, row{1, 2}, true)
	wantNext(t, row{1, 2, 4}, 1, row{2, 4}, true)
	wantNext(t, row{2, 1, 4}, 2, row{1, 4}, true)
}

func TestNextOfEachLine(t *testing.T) {
	for _, l := range eachLine() {
		if len(l) > 0 {
			wantNext(t, l, l[0], l[1:], true)
		}
	}
}

// 7.1: Without

func TestWithout(t *testing.T) {
	wantWithout(t, row{4, 1, 2}, row{9, 4, 2}, row{1})
	wantWithout(t, row{4, 1, 2}, nil, row{4, 1, 2})
	wantWithout(t, row{4, 1, 2}, row{}, row{4, 1, 2})
	wantWithout(t, row{4, 1, 2}, row{4}, row{1, 2})
	wantWithout(t, row{4, 1, 2}, row{1}, row{4, 2})
	wantWithout(t, row{4, 1, 2}, row{2}, row{4, 1})
	wantWithout(t, row{4, 1, 2}, row{2, 4}, row{1})
	wantWithout(t, row{4, 1, 2}, row{4, 1}, row{2})
	wantWithout(t, row{4, 1, 2}, row{1, 2}, row{4})
	wantWithout(t, row{4, 1, 2}, row{4, 1, 2}, nil)
	wantWithout(t, row{4, 1, 2}, row{2, 1, 4}, nil)
	wantWithout(t, row{4, 1, 2}, row{1, 1}, row{4, 2})
	wantWithout(t, row{4, 1, 2}, row{4, 4, 4, 4}, row{1, 2})
	wantWithout(t, row{4, 1, 2}, row{1, 0, 1, 2, 1}, row{4})
	wantWithout(t, row{4, 1, 2}, row{0, 3, 5, 6, 7}, row{4, 1, 2})
	wantWithout(t, row{4, 1, 2}, noClients, row{4, 1, 2})
	wantWithout(t, row{4, 0, 2}, anyone(), nil)
	wantWithout(t, row{4, 0, 2}, make(row, 1<<16), row{4, 2})
	wantWithout(t, row{0}, nil, row{0})
	wantWithout(t, row{0}, row{0}, nil)
	wantWithout(t, nil, nil, nil)
	wantWithout(t, nil, row{4}, nil)
	wantWithout(t, row{}, row{0, 0}, nil)
	if got := line.Without(row{4, 1, 2}); !slices.Equal(got, row{4, 1, 2}) {
		t.Errorf("Without none is %v", got)
	}
	if got := line.Without(row{4, 1, 2}, 2, 4); !slices.Equal(got, row{1}) {
		t.Errorf("Without 2 and 4 is %v", got)
	}
}

// Each line, without each set of clients, in this order, in the other, and
// with what no client is between them.
func TestWithoutOfEachSet(t *testing.T) {
	for set := range 1 << 8 {
		var gone, among row
		for client := range 8 {
			if set>>client&1 == 1 {
				gone = append(gone, client)
				among = append(among, client, -1-client, 8+client, client)
			}
		}
		back := slices.Clone(gone)
		slices.Reverse(back)
		for _, l := range eachLine() {
			var want row
			for _, client := range l {
				if set>>client&1 == 0 {
					want = append(want, client)
				}
			}
			wantWithout(t, l, gone, want)
			wantWithout(t, l, back, want)
			wantWithout(t, l, among, want)
		}
	}
}

// 7.2

// joined returns a line that these have joined, one after the other.
func joined(t *testing.T, clients ...int) row {
	t.Helper()
	var l row
	for i, client := range clients {
		more, n, code := line.Join(l, client)
		if n != i || code != api.OK {
			t.Errorf("%d joins %v behind %d, with code %d", client, l, n, code)
		}
		l = more
	}
	return l
}

// wantServed takes all out of a line, and holds the order in which they come to want.
func wantServed(t *testing.T, l, want row) {
	t.Helper()
	for i, client := range want {
		wantNext(t, l, client, want[i+1:], true)
		_, l, _ = line.Next(l)
	}
	wantNext(t, l, 0, nil, false)
}

// Of each line, each set of clients leaves, in each order.
func TestWhoJoinedFirstIsNextFirst(t *testing.T) {
	for _, l := range eachLine() {
		wantServed(t, joined(t, l...), l)
		for _, leavers := range eachLine() {
			rest := joined(t, l...)
			want := slices.Clone(l)
			for _, client := range leavers {
				if at := slices.Index(want, client); at >= 0 {
					want = slices.Delete(want, at, at+1)
				}
				rest, _ = line.Leave(rest, client)
			}
			wantServed(t, rest, want)
			wantServed(t, line.Without(joined(t, l...), leavers...), want)
		}
	}
}

// walker goes through all that can happen to a line in so many steps, and
// keeps apart from it when each client joined.
type walker struct {
	t     *testing.T
	steps int
}

func (w *walker) walk(l row, since map[int]int, now int) {
	w.wantFirst(l, since)
	if now == w.steps {
		return
	}
	for client := range 4 {
		more, _, code := line.Join(l, client)
		if code == api.OK {
			w.walk(more, with(since, client, now), now+1)
		}
		rest, ok := line.Leave(l, client)
		if ok {
			w.walk(rest, with(since, client, -1), now+1)
		}
	}
	if client, rest, ok := line.Next(l); ok {
		w.walk(rest, with(since, client, -1), now+1)
	}
	w.walk(line.Without(l, 1, 2), with(with(since, 1, -1), 2, -1), now+1)
}

// wantFirst holds who is next to who joined first of those who wait.
func (w *walker) wantFirst(l row, since map[int]int) {
	w.t.Helper()
	first := -1
	for client, when := range since {
		if first < 0 || when < since[first] {
			first = client
		}
	}
	client, rest, ok := line.Next(l)
	if ok != (first >= 0) || ok && (client != first || len(rest) != len(since)-1) || !ok && client != 0 {
		w.t.Errorf("of the line %v, joined at %v, %d is next, %v, and %v are left", l, since, client, ok, rest)
	}
}

// with returns since with a client that joined at when, or without it if when is below 0.
func with(since map[int]int, client, when int) map[int]int {
	turned := map[int]int{}
	for other, at := range since {
		if other != client {
			turned[other] = at
		}
	}
	if when >= 0 {
		turned[client] = when
	}
	return turned
}

func TestWhoIsNextWhateverHappens(t *testing.T) {
	w := &walker{t: t, steps: 6}
	w.walk(nil, nil, 0)
}
