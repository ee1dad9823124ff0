package lock_test

import (
	"math"
	"slices"
	"strings"
	"testing"

	"padlock/api"
	"padlock/lock"
)

type (
	list = []api.Lock
	row  = []int
)

// held makes a lock: its name, its holder, its token, and who wait for it.
func held(name string, holder, token int, line ...int) api.Lock {
	return api.Lock{Name: name, Holder: holder, Token: token, Line: line}
}

// three returns a list with room ahead of, among and behind its locks, whose
// lines are full, empty and neither. Client 1 holds two of them, client 2 the
// third and waits for both others; 7 is the greatest token.
func three() list {
	return list{held("b", 1, 7, 4, 2, 0), held("d", 2, 3), held("f", 1, 5, 2, 6)}
}

// four returns a list with as many locks as there may be: each client waits
// for one once at most, and 9 is the greatest token.
func four() list {
	return list{held("b", 3, 2, 0), held("d", 3, 9, 5, 4, 6), held("f", 0, 1), held("h", 7, 4, 1, 2)}
}

// rising returns n locks of the clients from 0 on, with the tokens from 1 on.
func rising(n int) list {
	var l list
	for i := range n {
		l = append(l, held(string(rune('a'+2*i)), i, i+1))
	}
	return l
}

// What no client, no token, no name and no line is.
var (
	noClients = row{math.MinInt, -256, -8, -2, -1, 8, 9, 15, 255, 256, 257, 1 << 32, api.High, math.MaxInt}
	noTokens  = row{math.MinInt, -api.High, -5, -1, 0, api.High + 1, 1 << 62, math.MaxInt}
	noNames   = []string{"", "A", "Door", "a_", "a ", " a", "a.", "a/", "a:", "a`", "a{", "a\x00", "a\xff", "a\n", "aé", "abcdefghijklm", strings.Repeat("a", 1<<16)}
	noLines   = []row{{-1}, {8}, {4, 4}, {4, 1, 4}, {4, 5, 5}, {4, 5, 8}, {4, 5, 6, 2}, {4, 4, 4, 4}, make(row, 1000)}
)

// copyOf returns l in memory of its own, lines too.
func copyOf(l list) list {
	all := slices.Clone(l)
	for i := range all {
		all[i].Line = slices.Clone(all[i].Line)
	}
	return all
}

func alike(a, b api.Lock) bool {
	return a.Name == b.Name && a.Holder == b.Holder && a.Token == b.Token && slices.Equal(a.Line, b.Line)
}

func same(a, b list) bool {
	return slices.EqualFunc(a, b, alike)
}

func wantRight(t *testing.T, l list, want bool) {
	t.Helper()
	if got := lock.Right(l); got != want {
		t.Errorf("Right(%v) = %v; want %v", l, got, want)
	}
}

func wantFind(t *testing.T, l list, name string, want api.Lock, wantOK bool) {
	t.Helper()
	if k, ok := lock.Find(l, name); !alike(k, want) || ok != wantOK {
		t.Errorf("Find(%v, %q) = %v, %v; want %v, %v", l, name, k, ok, want, wantOK)
	}
}

func wantTake(t *testing.T, l list, name string, client, token int, wait bool, want list, wantN int, wantCode api.Errno) {
	t.Helper()
	if got, n, code := lock.Take(l, name, client, token, wait); !same(got, want) || n != wantN || code != wantCode {
		t.Errorf("Take(%v, %q, %d, %d, %v) = %v, %d, %d; want %v, %d, %d", l, name, client, token, wait, got, n, code, want, wantN, wantCode)
	}
}

// wantNoTake holds Take to a code, beside which all else is zero.
func wantNoTake(t *testing.T, l list, name string, client, token int, wait bool, want api.Errno) {
	t.Helper()
	wantTake(t, l, name, client, token, wait, nil, 0, want)
}

func wantFree(t *testing.T, l list, name string, client, token int, want list, wantN int) {
	t.Helper()
	if got, n, code := lock.Free(l, name, client, token); !same(got, want) || n != wantN || code != api.OK {
		t.Errorf("Free(%v, %q, %d, %d) = %v, %d, %d; want %v, %d, OK", l, name, client, token, got, n, code, want, wantN)
	}
}

func wantNoFree(t *testing.T, l list, name string, client, token int) {
	t.Helper()
	if got, n, code := lock.Free(l, name, client, token); len(got) != 0 || n != 0 || code != api.ErrNone {
		t.Errorf("Free(%v, %q, %d, %d) = %v, %d, %d; want none, 0, ErrNone", l, name, client, token, got, n, code)
	}
}

func wantDrop(t *testing.T, l list, gone row, token int, want list, wantN int) {
	t.Helper()
	if got, n := lock.Drop(l, gone, token); !same(got, want) || n != wantN {
		t.Errorf("Drop(%v, %v, %d) = %v, %d; want %v, %d", l, gone, token, got, n, want, wantN)
	}
}

func wantHeld(t *testing.T, l list, client int, want ...api.Grant) {
	t.Helper()
	if got := lock.Held(l, client); !slices.Equal(got, want) {
		t.Errorf("Held(%v, %d) = %v; want %v", l, client, got, want)
	}
}

// 8.1: Right

func TestRight(t *testing.T) {
	for _, c := range []struct {
		l    list
		want bool
	}{
		{nil, true},
		{list{}, true},
		{list{held("a", 0, 1)}, true},
		{list{held("a", 1, 7)}, true},
		{list{held("abcdefghijkl", 7, api.High, 0, 1, 2)}, true},
		{three(), true},
		{four(), true},
		{list{held("a", 1, 4), held("b", 1, 3), held("c", 1, 2), held("d", 1, 1)}, true},    // of one client, with tokens that fall
		{list{held("a", 1, 1, 2), held("b", 2, 2, 1)}, true},                                // each holds what the other waits for
		{list{held("a", 1, 1, 4, 5, 6), held("b", 1, 2, 4, 5, 6)}, true},                    // who wait for both
		{list{held("-", 1, 1), held("--", 1, 2), held("0", 1, 3), held("a", 1, 4)}, true},   // names ascend by their bytes
		{list{held("10", 1, 1), held("9", 1, 2), held("a", 1, 3), held("a-", 1, 4)}, true},  // not as numbers
		{list{held("a-", 1, 1), held("a0", 1, 2), held("aa", 1, 3), held("b", 1, 4)}, true}, // nor by how long they are
		{list{{}}, false}, // the zero lock has no name
		{list{held("9", 1, 1), held("10", 1, 2)}, false},                                                   // names fall
		{list{held("b", 1, 1), held("aa", 1, 2)}, false},                                                   // the same
		{list{held("a", 1, 1), held("-", 1, 2)}, false},                                                    // the same
		{list{held("a", 1, 1), held("c", 1, 2), held("b", 1, 3)}, false},                                   // they rise and fall
		{list{held("a", 1, 1), held("c", 1, 2), held("b", 1, 3), held("d", 1, 4)}, false},                  // and rise again
		{list{held("a", 1, 1), held("a", 1, 1)}, false},                                                    // the same lock
		{list{held("a", 1, 1), held("a", 2, 2)}, false},                                                    // the same name
		{list{held("a", 1, 1), held("b", 2, 2), held("b", 3, 3)}, false},                                   // the same, last
		{list{held("a", 1, 1), held("b", 2, 2), held("a", 3, 3)}, false},                                   // the same, apart
		{list{held("a", 1, 7), held("b", 2, 7)}, false},                                                    // the same token
		{list{held("a", 1, 7), held("b", 2, 1), held("c", 3, 7)}, false},                                   // the same, apart
		{list{held("a", 1, 1, 1)}, false},                                                                  // the holder waits
		{list{held("a", 1, 1, 4, 5, 1)}, false},                                                            // the same, last
		{list{held("a", 0, 1, 0)}, false},                                                                  // the same, of client 0
		{list{held("a", 1, 1), held("b", 2, 2), held("c", 3, 3), held("d", 4, 4, 4)}, false},               // the same, of the last lock
		{list{held("a", 1, 1), held("b", 2, 2), held("c", 3, 3), held("d", 4, 4, 5, 5)}, false},            // one who waits twice
		{list{held("a", 1, 1), held("b", 1, 2), held("c", 1, 3), held("d", 1, 4), held("e", 1, 5)}, false}, // five
	} {
		wantRight(t, c.l, c.want)
	}
}

// Lists of each length are right but for the length.
func TestRightOfEachLength(t *testing.T) {
	for n := range 9 {
		wantRight(t, rising(n), n <= 4)
	}
	wantRight(t, make(list, 1<<16), false)
}

// eachPlace calls f with a list of each length, right but for what turn does
// to each of its locks.
func eachPlace(turn func(k *api.Lock), f func(l list)) {
	for n := 1; n <= 4; n++ {
		for at := range n {
			l := rising(n)
			turn(&l[at])
			f(l)
		}
	}
}

// Each field of each lock of lists of each length, at its edges and beyond.
// What is behind a name leaves it between the names beside it.
func TestRightOfEachField(t *testing.T) {
	want := func(ok bool, turn func(k *api.Lock)) {
		t.Helper()
		eachPlace(turn, func(l list) { t.Helper(); wantRight(t, l, ok) })
	}
	for _, v := range noClients {
		want(false, func(k *api.Lock) { k.Holder = v })
	}
	for v := range 8 {
		want(true, func(k *api.Lock) { k.Holder = v })
	}
	for _, v := range noTokens {
		want(false, func(k *api.Lock) { k.Token = v })
	}
	for _, v := range []int{5, 1 << 32, api.High - 1, api.High} {
		want(true, func(k *api.Lock) { k.Token = v })
	}
	for _, v := range noLines {
		want(false, func(k *api.Lock) { k.Holder, k.Line = 7, slices.Clone(v) })
	}
	for _, v := range []string{"A", "_", " ", ".", "/", ":", "`", "{", "\x00", "\xff", "é", "bcdefghijklmn"} {
		want(false, func(k *api.Lock) { k.Name += v })
	}
	for _, v := range []string{"", "-", "0", "9", "a", "z", "bcdefghijkl"} {
		want(true, func(k *api.Lock) { k.Name += v })
	}
	for _, v := range noNames {
		wantRight(t, list{held(v, 1, 1)}, false)
	}
}

// Each holder with each right line, ahead of and behind other locks.
func TestRightOfEachLine(t *testing.T) {
	for holder := range 8 {
		for _, line := range eachLine() {
			k, ok := held("d", holder, 5, line...), !slices.Contains(line, holder)
			wantRight(t, list{k}, ok)
			wantRight(t, list{held("b", 1, 7, 4), k}, ok)
			wantRight(t, list{k, held("f", 1, 7, 4)}, ok)
		}
	}
}

// The same token at each two places of lists of each length, next to each
// other and apart.
func TestRightOfEachTwoTokens(t *testing.T) {
	for _, token := range []int{1, 50, api.High} {
		for n := 2; n <= 4; n++ {
			for i := range n {
				for j := range i {
					l := rising(n)
					for k := range l {
						l[k].Token += 10
					}
					l[i].Token = token
					wantRight(t, l, true)
					l[j].Token = token
					wantRight(t, l, false)
				}
			}
		}
	}
}

// The same name, or names that fall, at each two places.
func TestRightOfEachTwoNames(t *testing.T) {
	for n := 2; n <= 4; n++ {
		for i := range n {
			for j := range i {
				l := rising(n)
				l[i].Name, l[j].Name = l[j].Name, l[i].Name
				wantRight(t, l, false)
				l[i].Name = l[j].Name
				wantRight(t, l, false)
			}
		}
	}
}

// 8.1: Find

func TestFind(t *testing.T) {
	l := three()
	wantFind(t, l, "b", l[0], true)
	wantFind(t, l, "d", l[1], true)
	wantFind(t, l, "f", l[2], true)
	for _, name := range []string{"a", "c", "e", "g", "bb", "b-", "", "B", "-", "0"} {
		wantFind(t, l, name, api.Lock{}, false)
	}
	wantFind(t, list{held("a", 0, 1)}, "b", api.Lock{}, false)
	wantFind(t, list{held("a", 0, 1)}, "a", held("a", 0, 1), true)
	wantFind(t, nil, "b", api.Lock{}, false)
	wantFind(t, list{}, "b", api.Lock{}, false)
	wantFind(t, three()[:1], "d", api.Lock{}, false) // what lies behind its end is not in it
}

// 8.2: Take, of a lock that there is not

func TestTakeOfNewLock(t *testing.T) {
	b, d, f := three()[0], three()[1], three()[2]
	for _, wait := range []bool{false, true} {
		wantTake(t, nil, "a", 1, 6, wait, list{held("a", 1, 7)}, 0, api.OK)
		wantTake(t, list{}, "a", 1, 6, wait, list{held("a", 1, 7)}, 0, api.OK)
		wantTake(t, nil, "a", 0, 0, wait, list{held("a", 0, 1)}, 0, api.OK)
		wantTake(t, nil, "door", 7, api.High-4, wait, list{held("door", 7, api.High-3)}, 0, api.OK)
		wantTake(t, three(), "a", 5, 7, wait, list{held("a", 5, 8), b, d, f}, 0, api.OK)
		wantTake(t, three(), "c", 5, 7, wait, list{b, held("c", 5, 8), d, f}, 0, api.OK)
		wantTake(t, three(), "e", 5, 7, wait, list{b, d, held("e", 5, 8), f}, 0, api.OK)
		wantTake(t, three(), "g", 5, 7, wait, list{b, d, f, held("g", 5, 8)}, 0, api.OK)
		wantTake(t, three(), "a", 1, 7, wait, list{held("a", 1, 8), b, d, f}, 0, api.OK)    // who holds others
		wantTake(t, three(), "g", 2, 7, wait, list{b, d, f, held("g", 2, 8)}, 0, api.OK)    // who waits for others
		wantTake(t, three(), "c", 5, 99, wait, list{b, held("c", 5, 100), d, f}, 0, api.OK) // tokens of locks that are no more
	}
}

// The place of a new lock is by the bytes of its name.
func TestTakeGoesByBytes(t *testing.T) {
	names := []string{"-", "--", "-a", "0", "10", "9", "a", "a-", "a0", "aa", "ab", "abcdefghijkl", "b", "z", "zzzzzzzzzzzz"}
	for i, first := range names {
		for j, second := range names {
			if i == j {
				continue
			}
			old, added := held(first, 3, 1), held(second, 4, 2)
			want := list{old, added}
			if j < i {
				want = list{added, old}
			}
			wantTake(t, list{old}, second, 4, 1, true, want, 0, api.OK)
		}
	}
}

func TestTakeWithMaxLocks(t *testing.T) {
	for _, wait := range []bool{false, true} {
		for _, name := range []string{"a", "c", "e", "g", "i"} {
			for client := range 8 {
				wantNoTake(t, four(), name, client, 9, wait, api.ErrFull)
			}
		}
	}
	// The locks that there are can be taken.
	want := four()
	want[2].Line = row{5}
	wantTake(t, four(), "f", 5, 9, true, want, 0, api.ErrWait)
	wantNoTake(t, four(), "f", 5, 9, false, api.ErrBusy)
	wantNoTake(t, four(), "f", 0, 9, true, api.ErrTwice)
}

// 8.2: Take, of a lock that there is

func TestTakeOfHeldLock(t *testing.T) {
	for _, wait := range []bool{false, true} {
		wantNoTake(t, list{held("a", 0, 1)}, "a", 0, 1, wait, api.ErrTwice)
		wantNoTake(t, three(), "b", 1, 7, wait, api.ErrTwice) // whose line is full
		wantNoTake(t, three(), "d", 2, 7, wait, api.ErrTwice)
		wantNoTake(t, three(), "f", 1, 7, wait, api.ErrTwice)
	}
}

func TestTakeWithoutWait(t *testing.T) {
	for client := range 8 {
		if client != 1 {
			wantNoTake(t, three(), "b", client, 7, false, api.ErrBusy) // in its full line, or not
			wantNoTake(t, three(), "f", client, 7, false, api.ErrBusy)
		}
		if client != 2 {
			wantNoTake(t, three(), "d", client, 7, false, api.ErrBusy)
		}
	}
}

func TestTakeOfWhoWaits(t *testing.T) {
	wantTake(t, three(), "b", 4, 7, true, three(), 0, api.ErrWait) // its line is full
	wantTake(t, three(), "b", 2, 7, true, three(), 1, api.ErrWait)
	wantTake(t, three(), "b", 0, 7, true, three(), 2, api.ErrWait)
	wantTake(t, three(), "f", 2, 7, true, three(), 0, api.ErrWait)
	wantTake(t, three(), "f", 6, 7, true, three(), 1, api.ErrWait)
	wantTake(t, four(), "b", 0, 9, true, four(), 0, api.ErrWait)
	wantTake(t, four(), "h", 2, 9, true, four(), 1, api.ErrWait)
}

func TestTakeOfWhoThenWaits(t *testing.T) {
	b, d, f := three()[0], three()[1], three()[2]
	wantTake(t, list{held("a", 1, 7)}, "a", 0, 7, true, list{held("a", 1, 7, 0)}, 0, api.ErrWait)
	wantTake(t, list{held("a", 1, 7)}, "a", 7, 9, true, list{held("a", 1, 7, 7)}, 0, api.ErrWait)
	wantTake(t, list{held("a", 1, 7, 4)}, "a", 2, 7, true, list{held("a", 1, 7, 4, 2)}, 1, api.ErrWait)
	wantTake(t, three(), "d", 1, 7, true, list{b, held("d", 2, 3, 1), f}, 0, api.ErrWait)
	wantTake(t, three(), "d", 4, 7, true, list{b, held("d", 2, 3, 4), f}, 0, api.ErrWait) // who waits for another, too
	wantTake(t, three(), "f", 0, 7, true, list{b, d, held("f", 1, 5, 2, 6, 0)}, 2, api.ErrWait)
	wantTake(t, three(), "f", 7, 7, true, list{b, d, held("f", 1, 5, 2, 6, 7)}, 2, api.ErrWait)
}

func TestTakeWithFullLine(t *testing.T) {
	for _, client := range []int{3, 5, 6, 7} {
		wantNoTake(t, three(), "b", client, 7, true, api.ErrFull)
	}
	for _, client := range []int{0, 1, 2, 7} {
		wantNoTake(t, four(), "d", client, 9, true, api.ErrFull)
	}
}

// R2: which case is the first, where several apply.
func TestTakeTellsTheFirstCase(t *testing.T) {
	full := list{held("b", 1, 9, 4, 2, 0), held("d", 3, 1), held("f", 3, 2), held("h", 3, 4)}
	wantNoTake(t, full, "a", 1, 9, false, api.ErrFull) // no such lock, no room; not busy
	wantNoTake(t, full, "a", 3, 9, true, api.ErrFull)
	wantNoTake(t, full, "b", 1, 9, false, api.ErrTwice) // it is the holder's, busy, the line full
	wantNoTake(t, full, "b", 1, 9, true, api.ErrTwice)
	wantNoTake(t, full, "b", 4, 9, false, api.ErrBusy) // in the line, but not to wait
	wantNoTake(t, full, "b", 0, 9, false, api.ErrBusy)
	wantNoTake(t, full, "b", 5, 9, false, api.ErrBusy) // the line full, but not to wait
	wantTake(t, full, "b", 0, 9, true, full, 2, api.ErrWait)
	wantNoTake(t, full, "b", 5, 9, true, api.ErrFull)
}

// 8.3: Free

func TestFreeByHolder(t *testing.T) {
	b, d, f := three()[0], three()[1], three()[2]
	wantFree(t, list{held("a", 0, 1)}, "a", 0, 1, nil, 0)
	wantFree(t, list{held("a", 0, 1, 7)}, "a", 0, 1, list{held("a", 7, 2)}, 1)
	wantFree(t, list{held("a", 7, 1, 0)}, "a", 7, 1, list{held("a", 0, 2)}, 1)
	wantFree(t, list{held("a", 7, 1, 0, 3)}, "a", 7, api.High-4, list{held("a", 0, api.High-3, 3)}, 1)
	wantFree(t, three(), "b", 1, 7, list{held("b", 4, 8, 2, 0), d, f}, 1)
	wantFree(t, three(), "d", 2, 7, list{b, f}, 0)
	wantFree(t, three(), "f", 1, 7, list{b, d, held("f", 2, 8, 6)}, 1)
	wantFree(t, three(), "f", 1, 99, list{b, d, held("f", 2, 100, 6)}, 1)
	wantFree(t, four(), "f", 0, 9, list{four()[0], four()[1], four()[3]}, 0)
	wantFree(t, rising(3), "a", 0, 3, rising(3)[1:], 0) // the first lock of all
	wantFree(t, rising(3), "e", 2, 3, rising(2), 0)     // the last
}

func TestFreeByWhoWaits(t *testing.T) {
	b, d, f := three()[0], three()[1], three()[2]
	wantFree(t, three(), "b", 4, 7, list{held("b", 1, 7, 2, 0), d, f}, 0)
	wantFree(t, three(), "b", 2, 7, list{held("b", 1, 7, 4, 0), d, f}, 0)
	wantFree(t, three(), "b", 0, 7, list{held("b", 1, 7, 4, 2), d, f}, 0)
	wantFree(t, three(), "f", 2, 7, list{b, d, held("f", 1, 5, 6)}, 0)
	wantFree(t, three(), "f", 6, 7, list{b, d, held("f", 1, 5, 2)}, 0)
	wantFree(t, list{held("a", 1, 1, 0)}, "a", 0, 9, list{held("a", 1, 1)}, 0)
}

func TestFreeByNeither(t *testing.T) {
	wantNoFree(t, nil, "a", 1, 0)
	wantNoFree(t, list{}, "a", 1, 0)
	wantNoFree(t, list{held("a", 1, 1)}, "a", 0, 1)
	wantNoFree(t, list{held("a", 1, 1)}, "b", 1, 1)
	for _, client := range []int{3, 5, 6, 7} {
		wantNoFree(t, three(), "b", client, 7)
	}
	for _, client := range []int{0, 1, 3, 4} { // of whom some hold or wait for others
		wantNoFree(t, three(), "d", client, 7)
	}
	for _, client := range []int{0, 3, 4} {
		wantNoFree(t, three(), "f", client, 7)
	}
	for client := range 8 {
		for _, name := range []string{"a", "c", "e", "g"} {
			wantNoFree(t, three(), name, client, 7)
		}
	}
}

// 8.4: Drop

func TestDrop(t *testing.T) {
	b, d, f := three()[0], three()[1], three()[2]
	for _, c := range []struct {
		gone row
		want list
		n    int
	}{
		{nil, three(), 0},
		{row{}, three(), 0},
		{row{3}, three(), 0}, // who has nothing
		{row{5, 7, 3}, three(), 0},
		{row{4}, list{held("b", 1, 7, 2, 0), d, f}, 0}, // who only waits
		{row{0}, list{held("b", 1, 7, 4, 2), d, f}, 0},
		{row{6}, list{b, d, held("f", 1, 5, 2)}, 0},
		{row{4, 6, 0}, list{held("b", 1, 7, 2), d, held("f", 1, 5, 2)}, 0},
		{row{2}, list{held("b", 1, 7, 4, 0), held("f", 1, 5, 6)}, 0}, // who holds one and waits for two
		{row{1}, list{held("b", 4, 8, 2, 0), d, held("f", 2, 9, 6)}, 2},
		{row{1, 1}, list{held("b", 4, 8, 2, 0), d, held("f", 2, 9, 6)}, 2},
		{row{1, 2}, list{held("b", 4, 8, 0), held("f", 6, 9)}, 2},
		{row{2, 1}, list{held("b", 4, 8, 0), held("f", 6, 9)}, 2},
		{row{1, 4}, list{held("b", 2, 8, 0), d, held("f", 2, 9, 6)}, 2},
		{row{4, 1, 2}, list{held("b", 0, 8), held("f", 6, 9)}, 2},
		{row{1, 4, 2, 0}, list{held("f", 6, 8)}, 1}, // a holder and all of a line
		{row{1, 6, 2}, list{held("b", 4, 8, 0)}, 1},
		{row{1, 2, 6, 4, 0}, nil, 0},
		{row{7, 6, 5, 4, 3, 2, 1, 0}, nil, 0},
		{row{1, 2, 1, 2, 2, 1}, list{held("b", 4, 8, 0), held("f", 6, 9)}, 2},
		{noClients, three(), 0},
		{append(slices.Clone(noClients), 2), list{held("b", 1, 7, 4, 0), held("f", 1, 5, 6)}, 0},
	} {
		wantDrop(t, three(), c.gone, 7, c.want, c.n)
	}
	for _, gone := range []row{nil, {0}, {0, 1, 2, 3, 4, 5, 6, 7}} {
		wantDrop(t, nil, gone, 0, nil, 0)
		wantDrop(t, list{}, gone, 7, nil, 0)
	}
}

// The tokens ascend with the names, in whatever order the clients are told.
func TestDropGivesTokensByName(t *testing.T) {
	l := list{held("a", 3, 9, 7), held("b", 2, 8, 7), held("c", 1, 7, 7), held("d", 0, 6, 7)}
	want := list{held("a", 7, 21), held("b", 7, 22), held("c", 7, 23), held("d", 7, 24)}
	for _, gone := range []row{{0, 1, 2, 3}, {3, 2, 1, 0}, {2, 0, 3, 1}, {1, 1, 3, 0, 2, 3}} {
		wantDrop(t, l, gone, 20, want, 4)
	}
	wantDrop(t, l, row{0, 3}, 20, list{held("a", 7, 21), l[1], l[2], held("d", 7, 22)}, 2)
	wantDrop(t, l, row{1, 0}, 20, list{l[0], l[1], held("c", 7, 21), held("d", 7, 22)}, 2)
	wantDrop(t, l, row{0, 1, 2, 3}, api.High-4, list{held("a", 7, api.High-3), held("b", 7, api.High-2), held("c", 7, api.High-1), held("d", 7, api.High)}, 4)
	// A lock for which nobody waits takes no token.
	l[1].Line = nil
	wantDrop(t, l, row{3, 2, 1, 0}, 20, list{held("a", 7, 21), held("c", 7, 22), held("d", 7, 23)}, 3)
}

// All leave the lines first: who is gone gets no lock, and no token with it.
func TestDropGivesNothingToWhoIsGone(t *testing.T) {
	l := list{held("a", 1, 1, 2, 3, 4), held("b", 2, 2, 1, 4), held("c", 3, 3, 2, 1)}
	wantDrop(t, l, row{1, 2}, 3, list{held("a", 3, 4, 4), held("b", 4, 5), held("c", 3, 3)}, 2)
	wantDrop(t, l, row{1, 2, 3}, 3, list{held("a", 4, 4), held("b", 4, 5)}, 2)
	wantDrop(t, l, row{3, 1}, 3, list{held("a", 2, 4, 4), held("b", 2, 2, 4), held("c", 2, 5)}, 2)
	wantDrop(t, l, row{4}, 3, list{held("a", 1, 1, 2, 3), held("b", 2, 2, 1), held("c", 3, 3, 2, 1)}, 0)
	wantDrop(t, l, row{1, 2, 3, 4}, 3, nil, 0)
}

// 8.5: Held

func TestHeld(t *testing.T) {
	one := func(name string, token int) api.Grant { return api.Grant{Name: name, Token: token} }
	wantHeld(t, three(), 1, one("b", 7), one("f", 5))
	wantHeld(t, three(), 2, one("d", 3)) // who waits for the others
	wantHeld(t, four(), 3, one("b", 2), one("d", 9))
	wantHeld(t, four(), 0, one("f", 1))
	wantHeld(t, four(), 7, one("h", 4))
	wantHeld(t, list{held("a", 0, 4), held("b", 0, 3), held("c", 0, 1), held("d", 0, 2)}, 0, one("a", 4), one("b", 3), one("c", 1), one("d", 2))
	for _, client := range []int{0, 3, 4, 5, 6, 7} {
		wantHeld(t, three(), client)
	}
	for client := range 8 {
		wantHeld(t, nil, client)
		wantHeld(t, list{}, client)
		wantHeld(t, three()[:0], client)
	}
}
