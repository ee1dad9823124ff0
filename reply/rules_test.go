package reply_test

import (
	"bytes"
	"encoding/binary"
	"math"
	"slices"
	"testing"

	"padlock/api"
	"padlock/reply"
)

// far are indices that no slice of a few bytes has.
var far = []int{-1, -2, -9, -11, math.MinInt, math.MinInt + 1, math.MinInt + 11, 1000, math.MaxInt - 20, math.MaxInt - 11, math.MaxInt - 9, math.MaxInt - 1, math.MaxInt}

// eachText calls f with replies and answers as bytes, each with some bytes
// behind it, with every one of its bytes made into each other byte, and cut off
// at each place. What f is given is its own.
func eachText(f func(b []byte)) {
	for _, s := range []string{
		"\x00" + zeros + "\x00\x00\x00",
		"\x0c" + high + "\x03\x00",
		"\x00" + one + "\x01\x02\x01a" + one + "\x02a0" + high,
		"\x00" + one + "\x00\x04\x010" + one + "\x01a" + one + "\x02b-" + high + "\x0c" + twelve[1:] + "z" + one,
		waits,
		"\x07" + high + "\x00" + zeros + "\x00\x00\x00",
		"\x00" + one + waits,
	} {
		whole := s + "\x01\x01a0-"
		for n := range len(whole) + 1 {
			f([]byte(whole[:n]))
		}
		for at := range len(s) {
			for x := range 256 {
				b := []byte(whole)
				b[at] = byte(x)
				f(b)
			}
		}
	}
}

// modelGrant reads an element of Held as 5.1 says, from index at of rest on.
func modelGrant(rest []byte, at int) (api.Grant, int, api.Errno) {
	if len(rest) <= at {
		return api.Grant{}, 0, api.ErrShort
	}
	size := int(rest[at])
	if size > 12 {
		return api.Grant{}, 0, api.ErrLong
	}
	if len(rest) < at+1+size+8 {
		return api.Grant{}, 0, api.ErrShort
	}
	token := binary.BigEndian.Uint64(rest[at+1+size:])
	if token >= 1<<62 {
		return api.Grant{}, 0, api.ErrForm
	}
	return api.Grant{Name: string(rest[at+1 : at+1+size]), Token: int(token)}, at + 1 + size + 8, api.OK
}

// model reads a reply as 5.1 says, with the place of each field written out.
func model(b []byte, at int) (api.Reply, int, api.Errno) {
	if at < 0 || at > len(b) || len(b)-at < 9 {
		return api.Reply{}, 0, api.ErrShort
	}
	rest := b[at:]
	session := binary.BigEndian.Uint64(rest[1:])
	switch {
	case session >= 1<<62:
		return api.Reply{}, 0, api.ErrForm
	case len(rest) < 11:
		return api.Reply{}, 0, api.ErrShort
	case rest[10] > 4:
		return api.Reply{}, 0, api.ErrForm
	}
	r := api.Reply{Code: api.Errno(rest[0]), Session: int(session), Ahead: int(rest[9])}
	next := 11
	for len(r.Held) < int(rest[10]) {
		g, behind, code := modelGrant(rest, next)
		if code != api.OK {
			return api.Reply{}, 0, code
		}
		r.Held = append(r.Held, g)
		next = behind
	}
	if !may(r) {
		return api.Reply{}, 0, api.ErrForm
	}
	return r, at + next, api.OK
}

// modelAnswer reads an answer as 5.2 says.
func modelAnswer(b []byte, at int) (api.Answer, int, api.Errno) {
	if at < 0 || at > len(b) || len(b)-at < 9 {
		return api.Answer{}, 0, api.ErrShort
	}
	seq := binary.BigEndian.Uint64(b[at+1:])
	if seq >= 1<<62 {
		return api.Answer{}, 0, api.ErrForm
	}
	r, next, code := model(b, at+9)
	if code != api.OK {
		return api.Answer{}, 0, code
	}
	a := api.Answer{Client: int(b[at]), Seq: int(seq), Reply: r}
	if !mayAnswer(a) {
		return api.Answer{}, 0, api.ErrForm
	}
	return a, next, api.OK
}

// R1, R2, R3: readings of any bytes at any index end without a panic, with the
// first error that applies, beside which all else is zero.
func TestReadingsOfAnything(t *testing.T) {
	ats := append([]int{0, 1, 9, 10, 11, 20, 22, 40}, far...)
	eachText(func(b []byte) {
		for _, at := range ats {
			r, next, code := model(b, at)
			wantGet(t, b, at, r, next, code)
			a, next, code := modelAnswer(b, at)
			wantGetAnswer(t, b, at, a, next, code)
		}
		if t.Failed() {
			t.FailNow() // what follows would tell of it again and again
		}
	})
}

// R1: what is told hangs on the arguments alone.
func TestSameArgumentsSameResults(t *testing.T) {
	type told struct {
		r    api.Reply
		a    api.Answer
		next [2]int
		code [2]api.Errno
	}
	life := func() (all []told) {
		eachText(func(b []byte) {
			var x told
			x.r, x.next[0], x.code[0] = reply.Get(b, 0)
			x.a, x.next[1], x.code[1] = reply.GetAnswer(b, 0)
			all = append(all, x)
		})
		return all
	}
	first, second := life(), life()
	for i, x := range first {
		y := second[i]
		if !same(x.r, y.r) || !sameAnswer(x.a, y.a) || x.next != y.next || x.code != y.code {
			t.Fatalf("the same bytes are told as %+v and as %+v", x, y)
		}
	}
}

// R1: a list that is long makes no call panic.
func TestLongLists(t *testing.T) {
	r := api.Reply{Session: 1, Held: make([]api.Grant, 1<<16)}
	for i := range r.Held {
		r.Held[i] = api.Grant{Name: "a", Token: i + 1}
	}
	wantMay(t, r, false)
	wantPut(t, r, "", api.ErrArg)
	wantPutAnswer(t, api.Answer{Client: 1, Seq: 1, Reply: r}, "", api.ErrArg)
	wantToken(t, r.Held, "a", 1)
	wantToken(t, r.Held, "b", 0)
}

// R4

func TestReadingsLeaveTheirBytes(t *testing.T) {
	eachText(func(whole []byte) {
		before := bytes.Clone(whole)
		b := whole[:len(whole)-len(whole)/8] // what lies behind its end is not its own
		for at := -1; at <= len(b)+1; at++ {
			reply.Get(b, at)
			reply.GetAnswer(b, at)
		}
		if !bytes.Equal(whole, before) {
			t.Errorf("readings turned %q into %q", before, whole)
		}
	})
}

// No call changes the list that it is handed, nor what lies behind its end.
func TestListsStay(t *testing.T) {
	for _, held := range append(rightHelds(), wrongHelds()...) {
		for _, session := range []int{0, 1} {
			whole := append(slices.Clone(held), api.Grant{Name: "spare", Token: 9}, api.Grant{Name: "0", Token: -9})
			before := slices.Clone(whole)
			r := api.Reply{Session: session, Held: whole[:len(held)]}
			a := api.Answer{Client: 1, Seq: 1, Reply: r}
			reply.May(r)
			reply.Put(r)
			reply.MayAnswer(a)
			reply.PutAnswer(a)
			reply.Token(r, "a")
			reply.Token(r, "b")
			if !slices.Equal(whole, before) {
				t.Errorf("calls turned %+v into %+v", before, whole)
			}
		}
	}
}

func TestBytesAreNotRetained(t *testing.T) {
	for _, held := range rightHelds() {
		want := api.Reply{Code: api.ErrWait, Session: 5, Ahead: 1, Held: held}
		b := ofAnswers().bytesOf(t, api.Answer{Client: 1, Seq: 2, Reply: want})
		r, _, _ := reply.Get(b, 9)
		a, _, _ := reply.GetAnswer(b, 0)
		for i := range b {
			b[i] = '#'
		}
		if !same(r, want) || !same(a.Reply, want) {
			t.Errorf("what was read turned from %+v into %+v and %+v", want, r, a.Reply)
		}
	}
}

// Whoever writes into bytes that were put, and into their spare capacity,
// changes no other result.
func TestBytesAreNewMemory(t *testing.T) {
	full := api.Reply{Session: api.High, Held: grants("-", "0", "a", twelve)}
	for i, put := range []func() []byte{
		func() []byte { return ofReplies().bytesOf(t, api.Reply{}) },
		func() []byte { return ofReplies().bytesOf(t, waiting()) },
		func() []byte { return ofReplies().bytesOf(t, full) },
		func() []byte { return ofAnswers().bytesOf(t, api.Answer{Client: 7, Seq: 1}) },
		func() []byte { return ofAnswers().bytesOf(t, api.Answer{Client: 0, Seq: api.High, Reply: full}) },
	} {
		first, second := put(), put()
		want := bytes.Clone(second)
		for _, b := range [][]byte{first, second[len(second):]} {
			all := b[:cap(b)]
			for k := range all {
				all[k] = '#'
			}
		}
		if !bytes.Equal(second, want) {
			t.Errorf("put %d: writing into the first result turned the second from %q into %q", i, want, second)
		}
		if third := put(); !bytes.Equal(third, want) {
			t.Errorf("put %d: writing into the first result turned the third from %q into %q", i, want, third)
		}
	}
}

// The same of lists that were read.
func TestListsAreNewMemory(t *testing.T) {
	for _, held := range rightHelds() {
		want := api.Reply{Code: api.ErrWait, Session: 5, Ahead: 1, Held: held}
		b := ofAnswers().bytesOf(t, api.Answer{Client: 1, Seq: 2, Reply: want})
		for i, get := range []func() api.Reply{
			func() api.Reply { r, _, _ := reply.Get(b, 9); return r },
			func() api.Reply { a, _, _ := reply.GetAnswer(b, 0); return a.Reply },
		} {
			first, second := get(), get()
			for _, l := range [][]api.Grant{first.Held, second.Held[len(second.Held):]} {
				all := l[:cap(l)]
				for k := range all {
					all[k] = api.Grant{Name: "#", Token: -1}
				}
			}
			if !same(second, want) {
				t.Errorf("get %d: writing into the first result turned the second from %+v into %+v", i, want, second)
			}
			if third := get(); !same(third, want) {
				t.Errorf("get %d: writing into the first result turned the third from %+v into %+v", i, want, third)
			}
		}
	}
}
