package snap_test

import (
	"bytes"
	"encoding/binary"
	"fmt"
	"math/rand"
	"slices"
	"testing"

	"padlock/api"
	"padlock/auto"
	"padlock/reply"
	"padlock/snap"
)

// cursor reads bytes as 11.1 says, and keeps the first error: behind it, all
// that is read is zero.
type cursor struct {
	b    []byte
	at   int
	code api.Errno
}

func (c *cursor) fail(bad bool, code api.Errno) {
	if c.code == api.OK && bad {
		c.code = code
	}
}

func (c *cursor) take(n int) []byte {
	c.fail(c.at < 0 || c.at > len(c.b) || len(c.b)-c.at < n, api.ErrShort)
	if c.code != api.OK {
		return make([]byte, n)
	}
	c.at += n
	return c.b[c.at-n : c.at]
}

func (c *cursor) small() int {
	return int(c.take(1)[0])
}

func (c *cursor) num() int {
	v := binary.BigEndian.Uint64(c.take(8))
	c.fail(v >= 1<<62, api.ErrForm)
	return int(v)
}

func (c *cursor) name() string {
	n := c.small()
	c.fail(n > 12, api.ErrLong)
	return string(c.take(n))
}

func (c *cursor) count(most int) int {
	n := c.small()
	c.fail(n > most, api.ErrForm)
	return min(n, most)
}

func (c *cursor) memo() api.Memo {
	m := api.Memo{Client: c.small(), Seq: c.num()}
	m.Reply = api.Reply{Code: api.Errno(c.small()), Session: c.num(), Ahead: c.small()}
	for range c.count(4) {
		m.Reply.Held = append(m.Reply.Held, grant(c.name(), c.num()))
	}
	c.fail(!reply.MayAnswer(api.Answer(m)), api.ErrForm)
	return m
}

func (c *cursor) state() state {
	s := state{Time: c.num(), Num: c.num(), Token: c.num()}
	for range c.count(5) {
		s.Sessions = append(s.Sessions, opened(c.small(), c.num(), c.num()))
	}
	for range c.count(4) {
		k := held(c.name(), c.small(), c.num())
		for range c.count(3) {
			k.Line = append(k.Line, c.small())
		}
		s.Locks = append(s.Locks, k)
	}
	for range c.count(8) {
		s.Memos = append(s.Memos, c.memo())
	}
	c.fail(!auto.Right(s), api.ErrForm)
	return s
}

// model reads a state as 11.1 says.
func model(b []byte, at int) (state, int, api.Errno) {
	c := &cursor{b: b, at: at}
	s := c.state()
	if c.code != api.OK {
		return state{}, 0, c.code
	}
	return s, c.at, api.OK
}

// modelSnap reads a snapshot as 11.2 says.
func modelSnap(b []byte, at int) (api.Snap, int, api.Errno) {
	c := &cursor{b: b, at: at}
	x := behind(c.num(), c.num(), c.num(), state{})
	x.State = c.state()
	c.fail(max(x.Done, x.Tip.View, x.Tip.Slot) > 1<<61, api.ErrForm)
	if c.code != api.OK {
		return api.Snap{}, 0, c.code
	}
	return x, c.at, api.OK
}

// eachText calls f with states and snapshots as bytes, each with some bytes
// behind it, with every one of its bytes made into others, and cut off at each
// place. What f is given is its own.
func eachText(f func(b []byte)) {
	small := state{Time: 2, Num: 1, Token: 1, Sessions: []api.Session{opened(4, 1, 0)}, Locks: []api.Lock{held("d", 4, 1)}, Memos: []api.Memo{said(4, 1, api.OK, 1, 0, grant("d", 1))}}
	for _, s := range []string{
		text(state{}),
		text(small),
		plainText,
		text(busy()),
		text(full())[:400],
		snapText(behind(0, 0, 0, small)),
		snapText(behind(api.High, 1, 3, plain())),
	} {
		whole := s + "\x01\x01a0-"
		for n := range len(whole) + 1 {
			f([]byte(whole[:n]))
		}
		for at := range len(s) {
			for x := range 256 {
				// All small numbers, and some of the others.
				if x > 40 && x%5 != at%5 {
					continue
				}
				b := []byte(whole)
				b[at] = byte(x)
				f(b)
			}
		}
	}
}

// noise calls f with bytes of no form, many of which are small; and with states
// in which several bytes are others.
func noise(f func(b []byte)) {
	r := rand.New(rand.NewSource(11))
	for range 20000 {
		b := make([]byte, r.Intn(200))
		for i := range b {
			b[i] = byte(r.Intn(256) >> r.Intn(9))
		}
		f(b)
		b = []byte(text(plain()))
		for range r.Intn(5) {
			b[r.Intn(len(b))] = byte(r.Intn(256) >> r.Intn(9))
		}
		f(b)
	}
}

func wantAsModel(t *testing.T, b []byte, at int) {
	t.Helper()
	s, next, code := snap.Get(b, at)
	if want, wantNext, wantCode := model(b, at); !same(s, want) || next != wantNext || code != wantCode {
		t.Fatalf("Get(%q, %d) = %+v, %d, %d; want %+v, %d, %d", b, at, s, next, code, want, wantNext, wantCode)
	}
	x, next, code := snap.GetSnap(b, at)
	if want, wantNext, wantCode := modelSnap(b, at); !sameSnap(x, want) || next != wantNext || code != wantCode {
		t.Fatalf("GetSnap(%q, %d) = %+v, %d, %d; want %+v, %d, %d", b, at, x, next, code, want, wantNext, wantCode)
	}
}

// R1, R2, R3: readings of any bytes at any index end without a panic, with the
// first error that applies, beside which all else is zero.
func TestReadingsOfAnything(t *testing.T) {
	read := map[api.Errno]int{}
	try := func(b []byte) {
		wantAsModel(t, b, 0)
		_, _, code := snap.Get(b, 0)
		read[code]++
	}
	eachText(try)
	noise(try)
	for _, code := range []api.Errno{api.OK, api.ErrShort, api.ErrLong, api.ErrForm} {
		if read[code] == 0 {
			t.Errorf("nothing was read with code %d: %v", code, read)
		}
	}
}

func TestReadingsAnywhere(t *testing.T) {
	for _, s := range rightStates() {
		for _, b := range []string{text(s), snapText(behind(1, 2, 3, s)), text(s) + text(s)} {
			for at := range len(b) + 2 {
				wantAsModel(t, []byte(b), at)
			}
			for _, at := range far {
				wantAsModel(t, []byte(b), at)
			}
		}
	}
}

// R1: what is told hangs on the arguments alone: not on what was called before,
// nor on what lies behind the end of the bytes.
func TestSameArgumentsSameResults(t *testing.T) {
	eachText(func(b []byte) {
		s, next, code := snap.Get(b, 0)
		x, nextSnap, codeSnap := snap.GetSnap(b, 0)
		again := append(bytes.Clone(b), text(full())...)[:len(b)]
		if s2, next2, code2 := snap.Get(again, 0); !same(s, s2) || next != next2 || code != code2 {
			t.Fatalf("%q is read as %+v and as %+v", b, s, s2)
		}
		if x2, next2, code2 := snap.GetSnap(again, 0); !sameSnap(x, x2) || nextSnap != next2 || codeSnap != code2 {
			t.Fatalf("%q is read as %+v and as %+v", b, x, x2)
		}
	})
	for _, s := range append(rightStates(), wrongStates()...) {
		b, code := snap.Put(s)
		wantPut(t, roomy(s), string(b), code)
		b, code = snap.PutSnap(behind(1, 2, 3, s))
		wantPutSnap(t, behind(1, 2, 3, roomy(s)), string(b), code)
		wantMay(t, behind(1, 2, 3, roomy(s)), code == api.OK)
		wantSame(t, roomy(s), s, true)
	}
}

// R1: lists that are long make no call panic.
func TestLongLists(t *testing.T) {
	const n = 1 << 16
	for _, s := range []state{
		{Num: 1, Sessions: make([]api.Session, n)},
		{Locks: make([]api.Lock, n)},
		{Memos: make([]api.Memo, n)},
		turned(plain(), func(s *state) { s.Locks[0].Line = make(row, n) }),
		turned(plain(), func(s *state) { s.Memos[1].Reply.Held = make([]api.Grant, n) }),
	} {
		b, code := snap.Put(s)
		x, codeSnap := snap.PutSnap(behind(1, 2, 3, s))
		if len(b) != 0 || len(x) != 0 || code != api.ErrArg || codeSnap != api.ErrArg || snap.MaySnap(behind(1, 2, 3, s)) {
			t.Errorf("what is long is put as %d and %d bytes, with codes %d and %d", len(b), len(x), code, codeSnap)
		}
		if !snap.Same(s, copyOf(s)) || snap.Same(s, plain()) {
			t.Error("what is long is not the same as itself, or as what is not")
		}
	}
	b := bytes.Repeat([]byte{5}, n)
	wantAsModel(t, b, 0)
	wantAsModel(t, make([]byte, n), n/2)
}

// R3: a nil list and an empty one are put as the same bytes, in each place.
func TestPutOfNilAndEmpty(t *testing.T) {
	for _, s := range append(rightStates(), wrongStates()...) {
		b, code := snap.Put(copyOf(s))
		wantPut(t, emptied(s), string(b), code)
		b, code = snap.PutSnap(behind(1, 2, 3, copyOf(s)))
		wantPutSnap(t, behind(1, 2, 3, emptied(s)), string(b), code)
		wantMay(t, behind(1, 2, 3, emptied(s)), code == api.OK)
	}
}

// R4

// roomy returns s in memory of its own, where each list goes on behind its end.
func roomy(s state) state {
	s = copyOf(s)
	for i, k := range s.Locks {
		s.Locks[i].Line = append(k.Line, 7, -1)[:len(k.Line)]
	}
	for i, m := range s.Memos {
		held := m.Reply.Held
		s.Memos[i].Reply.Held = append(held, grant("z", 5), grant("0", -9))[:len(held)]
	}
	s.Sessions = append(s.Sessions, opened(7, 1, 1), opened(-1, -1, -1))[:len(s.Sessions)]
	s.Locks = append(s.Locks, held("z", 7, 1, 1), held("0", -1, -1, -1))[:len(s.Locks)]
	s.Memos = append(s.Memos, said(7, 1, api.OK, 1, 0, grant("z", 1)), said(-1, -1, -1, -1, -1, grant("", 0)))[:len(s.Memos)]
	return s
}

// throughout returns s with all of its lists up to their capacity, in memory of
// its own.
func throughout(s state) state {
	s.Sessions, s.Locks, s.Memos = s.Sessions[:cap(s.Sessions)], s.Locks[:cap(s.Locks)], s.Memos[:cap(s.Memos)]
	s.Locks, s.Memos = slices.Clone(s.Locks), slices.Clone(s.Memos)
	for i, k := range s.Locks {
		s.Locks[i].Line = k.Line[:cap(k.Line)]
	}
	for i, m := range s.Memos {
		s.Memos[i].Reply.Held = m.Reply.Held[:cap(m.Reply.Held)]
	}
	return copyOf(s)
}

// No call changes the state that it is handed, nor what lies behind the ends of
// its lists, whatever it tells.
func TestStatesStay(t *testing.T) {
	for _, s := range append(rightStates(), wrongStates()...) {
		mine := roomy(s)
		before := throughout(mine)
		snap.Put(mine)
		snap.PutSnap(behind(1, 2, 3, mine))
		snap.PutSnap(behind(-1, 2, 3, mine))
		snap.MaySnap(behind(1, 2, 3, mine))
		for _, other := range append(rightStates(), s) {
			snap.Same(mine, other)
			snap.Same(other, mine)
		}
		if after := throughout(mine); !same(after, before) {
			t.Errorf("calls turned %+v into %+v", before, after)
		}
	}
}

func TestReadingsLeaveTheirBytes(t *testing.T) {
	eachText(func(whole []byte) {
		before := bytes.Clone(whole)
		b := whole[:len(whole)-len(whole)/8] // what lies behind its end is not its own
		for _, at := range []int{-1, 0, 1, 24, len(b), len(b) + 1} {
			snap.Get(b, at)
			snap.GetSnap(b, at)
		}
		if !bytes.Equal(whole, before) {
			t.Fatalf("readings turned %q into %q", before, whole)
		}
	})
}

func TestBytesAreNotRetained(t *testing.T) {
	for _, want := range rightStates() {
		b := []byte(snapText(behind(1, 2, 3, want)))
		s, _, _ := snap.Get(b, 24)
		x, _, _ := snap.GetSnap(b, 0)
		for i := range b {
			b[i] = '#'
		}
		if !same(s, want) || !sameSnap(x, behind(1, 2, 3, want)) {
			t.Errorf("what was read turned from %+v into %+v and %+v", want, s, x)
		}
	}
}

// Whoever writes into the state that was put changes no bytes of it; whoever
// writes into bytes that were put, and into their spare capacity, changes no
// other result.
func TestBytesAreNewMemory(t *testing.T) {
	for _, s := range rightStates() {
		for i, put := range []func(s state) ([]byte, api.Errno){
			snap.Put,
			func(s state) ([]byte, api.Errno) { return snap.PutSnap(behind(1, 2, 3, s)) },
		} {
			mine := roomy(s)
			first, _ := put(mine)
			second, _ := put(mine)
			want := bytes.Clone(second)
			for _, b := range [][]byte{first, second[len(second):]} {
				scrawlAll(b, '#')
			}
			if !bytes.Equal(second, want) {
				t.Errorf("put %d: writing into the first result turned the second from %q into %q", i, want, second)
			}
			if third, _ := put(mine); !bytes.Equal(third, want) || len(want) == 0 {
				t.Errorf("put %d: writing into the first result turned the third from %q into %q", i, want, third)
			}
			for _, l := range listsOf(mine) {
				l.scrawl()
			}
			if !bytes.Equal(second, want) {
				t.Errorf("put %d: writing into %+v turned the result from %q into %q", i, s, want, second)
			}
		}
	}
}

func scrawlAll[T any](l []T, v T) {
	all := l[:cap(l)]
	for i := range all {
		all[i] = v
	}
}

// list is one of the lists of a state: what writes into all of it, and into its
// spare capacity; and what it is, but for the lists that are in it.
type list struct {
	scrawl func()
	words  func() string
}

func listsOf(s state) []list {
	all := []list{
		{func() { scrawlAll(s.Sessions, opened(-7, -7, -7)) }, func() string { return fmt.Sprint(s.Sessions) }},
		{func() { scrawlAll(s.Locks, held("-7", -7, -7, -7)) }, func() (words string) {
			for _, k := range s.Locks {
				words += fmt.Sprint(k.Name, k.Holder, k.Token, len(k.Line), ";")
			}
			return words
		}},
		{func() { scrawlAll(s.Memos, said(-7, -7, -7, -7, -7, grant("-7", -7))) }, func() (words string) {
			for _, m := range s.Memos {
				words += fmt.Sprint(m.Client, m.Seq, m.Reply.Code, m.Reply.Session, m.Reply.Ahead, len(m.Reply.Held), ";")
			}
			return words
		}},
	}
	for _, k := range s.Locks {
		all = append(all, list{func() { scrawlAll(k.Line, -7) }, func() string { return fmt.Sprint(k.Line) }})
	}
	for _, m := range s.Memos {
		held := m.Reply.Held
		all = append(all, list{func() { scrawlAll(held, grant("-7", -7)) }, func() string { return fmt.Sprint(held) }})
	}
	return all
}

// wantApart writes into one of the lists, and looks at all others.
func wantApart(t *testing.T, lists []list, n int) {
	t.Helper()
	var before []string
	for _, l := range lists {
		before = append(before, l.words())
	}
	lists[n].scrawl()
	for i, l := range lists {
		if i != n && l.words() != before[i] {
			t.Errorf("writing into list %d turned list %d from %s into %s", n, i, before[i], l.words())
		}
	}
}

// States that are read are new memory, their spare capacity too, and no two
// lists of one of them share any.
func TestStatesAreNewMemory(t *testing.T) {
	for _, s := range rightStates() {
		b := []byte(snapText(behind(1, 2, 3, s)))
		before := bytes.Clone(b)
		for i, get := range []func() state{
			func() state { s, _, _ := snap.Get(b, 24); return s },
			func() state { x, _, _ := snap.GetSnap(b, 0); return x.State },
		} {
			for n := range listsOf(get()) {
				first, second := get(), get()
				wantApart(t, listsOf(first), n)
				if !same(second, s) {
					t.Errorf("get %d: writing into list %d of the first result turned the second from %+v into %+v", i, n, s, second)
				}
			}
			if third := get(); !same(third, s) || !bytes.Equal(b, before) {
				t.Errorf("get %d: writing into results turned the third from %+v into %+v", i, s, third)
			}
		}
	}
}
