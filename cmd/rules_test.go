package cmd_test

import (
	"bytes"
	"encoding/binary"
	"math"
	"testing"

	"padlock/api"
	"padlock/cmd"
)

// far are indices that no slice of a few bytes has.
var far = []int{-1, -2, -9, -10, math.MinInt, math.MinInt + 1, math.MinInt + 10, 1000, math.MaxInt - 19, math.MaxInt - 10, math.MaxInt - 9, math.MaxInt - 1, math.MaxInt}

// eachText calls f with commands and requests as bytes, each with some bytes
// behind it, with every one of its bytes made into each other byte, and cut off
// at each place. What f is given is its own.
func eachText(f func(b []byte)) {
	for _, s := range []string{
		"\x01\x00\x00\x00\x00\x00\x00\x00\x00\x00",
		"\x02\x20\x00\x00\x00\x00\x00\x00\x00\x00",
		"\x04\x00\x00\x00\x00\x00\x00\x00\x01\x0c" + twelve,
		take,
		"\x07\x20\x00\x00\x00\x00\x00\x00\x00" + "\x01\x00\x00\x00\x00\x00\x00\x00\x00\x00",
		"\x00\x00\x00\x00\x00\x00\x00\x00\x01" + take,
	} {
		whole := s + "\x01\x01a0-"
		for n := range len(whole) + 1 {
			f([]byte(whole[:n]))
		}
		for at := range len(s) {
			for x := range 256 {
				b := []byte(whole)
				b[at] = byte(x)
				f(b)
			}
		}
	}
}

// model reads a command as 4.1 says, with the place of each field written out.
func model(b []byte, at int) (api.Cmd, int, api.Errno) {
	if at < 0 || at > len(b) || len(b)-at < 9 {
		return api.Cmd{}, 0, api.ErrShort
	}
	rest := b[at:]
	session := binary.BigEndian.Uint64(rest[1:])
	switch {
	case session >= 1<<62:
		return api.Cmd{}, 0, api.ErrForm
	case len(rest) < 10:
		return api.Cmd{}, 0, api.ErrShort
	case rest[9] > 12:
		return api.Cmd{}, 0, api.ErrLong
	case len(rest) < 10+int(rest[9]):
		return api.Cmd{}, 0, api.ErrShort
	}
	c := api.Cmd{Kind: int(rest[0]), Session: int(session), Name: string(rest[10 : 10+int(rest[9])])}
	if !may(c) {
		return api.Cmd{}, 0, api.ErrForm
	}
	return c, at + 10 + len(c.Name), api.OK
}

// modelReq reads a request as 4.2 says.
func modelReq(b []byte, at int) (api.Req, int, api.Errno) {
	if at < 0 || at > len(b) || len(b)-at < 9 {
		return api.Req{}, 0, api.ErrShort
	}
	seq := binary.BigEndian.Uint64(b[at+1:])
	if seq >= 1<<62 {
		return api.Req{}, 0, api.ErrForm
	}
	c, next, code := model(b, at+9)
	if code != api.OK {
		return api.Req{}, 0, code
	}
	r := api.Req{Client: int(b[at]), Seq: int(seq), Cmd: c}
	if !mayReq(r) {
		return api.Req{}, 0, api.ErrForm
	}
	return r, next, api.OK
}

// R1, R2, R3: readings of any bytes at any index end without a panic, with the
// first error that applies, beside which all else is zero.
func TestReadingsOfAnything(t *testing.T) {
	ats := append([]int{0, 1, 9, 10, 19, 22, 40}, far...)
	eachText(func(b []byte) {
		for _, at := range ats {
			c, next, code := model(b, at)
			wantGet(t, b, at, c, next, code)
			r, next, code := modelReq(b, at)
			wantGetReq(t, b, at, r, next, code)
		}
	})
}

// R1: what is told hangs on the arguments alone.
func TestSameArgumentsSameResults(t *testing.T) {
	type told struct {
		c    api.Cmd
		r    api.Req
		next [2]int
		code [2]api.Errno
	}
	life := func() (all []told) {
		eachText(func(b []byte) {
			var x told
			x.c, x.next[0], x.code[0] = cmd.Get(b, 0)
			x.r, x.next[1], x.code[1] = cmd.GetReq(b, 0)
			all = append(all, x)
		})
		return all
	}
	one, two := life(), life()
	for i := range one {
		if one[i] != two[i] {
			t.Errorf("the same bytes are told as %+v and as %+v", one[i], two[i])
		}
	}
}

// R4

func TestReadingsLeaveTheirBytes(t *testing.T) {
	eachText(func(whole []byte) {
		before := bytes.Clone(whole)
		b := whole[:len(whole)-len(whole)/8] // what lies behind its end is not its own
		for at := -1; at <= len(b)+1; at++ {
			cmd.Get(b, at)
			cmd.GetReq(b, at)
		}
		if !bytes.Equal(whole, before) {
			t.Errorf("readings turned %q into %q", before, whole)
		}
	})
}

func TestNamesAreNotRetained(t *testing.T) {
	for _, name := range []string{"a", "z9-", twelve} {
		c := api.Cmd{Kind: api.Take, Session: 5, Name: name}
		b := ofReqs().bytesOf(t, api.Req{Client: 1, Seq: 2, Cmd: c})
		read, _, _ := cmd.Get(b, 9)
		req, _, _ := cmd.GetReq(b, 0)
		for i := range b {
			b[i] = '#'
		}
		if read.Name != name || req.Cmd.Name != name {
			t.Errorf("the name that was read turned from %q into %q and %q", name, read.Name, req.Cmd.Name)
		}
		if c.Name != name {
			t.Errorf("the name that was put turned from %q into %q", name, c.Name)
		}
	}
}

// Whoever writes into a result, and into its spare capacity, changes no other result.
func TestResultsAreNewMemory(t *testing.T) {
	open := api.Cmd{Kind: api.Open}
	free := api.Cmd{Kind: api.Free, Session: 258, Name: twelve}
	for i, put := range []func() []byte{
		func() []byte { return ofCmds().bytesOf(t, open) },
		func() []byte { return ofCmds().bytesOf(t, free) },
		func() []byte { return ofReqs().bytesOf(t, api.Req{Client: 7, Seq: 1, Cmd: open}) },
		func() []byte { return ofReqs().bytesOf(t, api.Req{Client: 0, Seq: api.High, Cmd: free}) },
	} {
		first, second := put(), put()
		want := bytes.Clone(second)
		for _, b := range [][]byte{first, second[len(second):]} {
			all := b[:cap(b)]
			for k := range all {
				all[k] = '#'
			}
		}
		if !bytes.Equal(second, want) {
			t.Errorf("put %d: writing into the first result turned the second from %q into %q", i, want, second)
		}
		if third := put(); !bytes.Equal(third, want) {
			t.Errorf("put %d: writing into the first result turned the third from %q into %q", i, want, third)
		}
	}
}
