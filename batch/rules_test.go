package batch_test

import (
	"bytes"
	"encoding/binary"
	"math/rand"
	"slices"
	"testing"

	"padlock/api"
	"padlock/batch"
	"padlock/cmd"
)

// cursor reads bytes as 12.1 says, and keeps the first error: behind it, all
// that is read is zero.
type cursor struct {
	b    []byte
	at   int
	code api.Errno
}

func (c *cursor) fail(bad bool, code api.Errno) {
	if c.code == api.OK && bad {
		c.code = code
	}
}

func (c *cursor) take(n int) []byte {
	c.fail(c.at < 0 || c.at > len(c.b) || len(c.b)-c.at < n, api.ErrShort)
	if c.code != api.OK {
		return make([]byte, n)
	}
	c.at += n
	return c.b[c.at-n : c.at]
}

func (c *cursor) small() int {
	return int(c.take(1)[0])
}

func (c *cursor) num() int {
	v := binary.BigEndian.Uint64(c.take(8))
	c.fail(v >= 1<<62, api.ErrForm)
	return int(v)
}

func (c *cursor) req() api.Req {
	r := api.Req{Client: c.small(), Seq: c.num()}
	r.Cmd.Kind = c.small()
	r.Cmd.Session = c.num()
	n := c.small()
	c.fail(n > 12, api.ErrLong)
	r.Cmd.Name = string(c.take(n))
	c.fail(!cmd.MayReq(r), api.ErrForm)
	return r
}

// model reads a batch as 12.1 says.
func model(b []byte, at int) (api.Batch, int, api.Errno) {
	c := &cursor{b: b, at: at}
	first := c.small()
	c.fail(first > 1, api.ErrForm)
	if first == 1 && c.code == api.OK {
		return api.Batch{Fill: true}, c.at, api.OK
	}
	x := api.Batch{View: c.num(), Tip: tip(c.num(), c.num()), Time: c.num()}
	n := c.small()
	c.fail(n > 3, api.ErrForm)
	clients := map[int]bool{}
	for range min(n, 3) {
		r := c.req()
		x.Reqs = append(x.Reqs, r)
		clients[r.Client] = true
	}
	c.fail(max(x.View, x.Tip.View, x.Tip.Slot, x.Time) > 1<<61 || len(clients) < n, api.ErrForm)
	if c.code != api.OK {
		return api.Batch{}, 0, c.code
	}
	return x, c.at, api.OK
}

// eachText calls f with batches as bytes, each with some bytes behind it, with
// every one of its bytes made into each other byte, and cut off at each place.
// What f is given is its own.
func eachText(f func(b []byte)) {
	for _, x := range append(wellFormed(), turned(plain(), func(b *api.Batch) { b.Reqs[1].Client = 3 })) {
		s := text(x)
		whole := s + "\x01\x01a0-"
		for n := range len(whole) + 1 {
			f([]byte(whole[:n]))
		}
		for at := range len(s) {
			for x := range 256 {
				b := []byte(whole)
				b[at] = byte(x)
				f(b)
			}
		}
	}
}

// noise calls f with bytes of no form, many of which are small; and with
// batches in which several bytes are others.
func noise(f func(b []byte)) {
	r := rand.New(rand.NewSource(12))
	other := func() byte { return byte(r.Intn(256) >> r.Intn(9)) }
	for range 20000 {
		b := make([]byte, r.Intn(150))
		for i := range b {
			b[i] = other()
		}
		f(b)
		b = []byte(text(anyBatch(r)))
		for range r.Intn(5) {
			b[r.Intn(len(b))] = other()
		}
		f(b)
	}
}

func wantAsModel(t *testing.T, b []byte, at int) {
	t.Helper()
	got, next, code := batch.Get(b, at)
	if want, wantNext, wantCode := model(b, at); !same(got, want) || next != wantNext || code != wantCode {
		t.Fatalf("Get(%q, %d) = %+v, %d, %d; want %+v, %d, %d", b, at, got, next, code, want, wantNext, wantCode)
	}
}

// R1, R2, R3: readings of any bytes at any index end without a panic, with the
// first error that applies, beside which all else is zero.
func TestReadingsOfAnything(t *testing.T) {
	read := map[api.Errno]int{}
	try := func(b []byte) {
		wantAsModel(t, b, 0)
		_, _, code := batch.Get(b, 0)
		read[code]++
	}
	eachText(try)
	noise(try)
	for _, code := range []api.Errno{api.OK, api.ErrShort, api.ErrLong, api.ErrForm} {
		if read[code] == 0 {
			t.Errorf("nothing was read with code %d: %v", code, read)
		}
	}
}

func TestReadingsAnywhere(t *testing.T) {
	for _, x := range wellFormed() {
		for _, b := range []string{text(x), text(x) + text(x), "\x01\x00" + text(x)} {
			for at := range len(b) + 2 {
				wantAsModel(t, []byte(b), at)
			}
			for _, at := range far {
				wantAsModel(t, []byte(b), at)
			}
		}
	}
}

// R1: what is told hangs on the arguments alone: not on what was called before,
// nor on what lies behind the end of the bytes or of a list.
func TestSameArgumentsSameResults(t *testing.T) {
	eachText(func(b []byte) {
		got, next, code := batch.Get(b, 0)
		again := append(bytes.Clone(b), text(full())...)[:len(b)]
		if got2, next2, code2 := batch.Get(again, 0); !same(got, got2) || next != next2 || code != code2 {
			t.Fatalf("%q is read as %+v and as %+v", b, got, got2)
		}
	})
	for _, x := range append(wellFormed(), notWellFormed()...) {
		b, code := batch.Put(x)
		wantPut(t, roomy(x), string(b), code)
		wantMay(t, roomy(x), code == api.OK)
		wantSame(t, roomy(x), x, true)
		wantValid(t, x.Tip, roomy(x), !x.Fill)
		end, time := batch.Walk(x.Tip, 1, 2, x, x)
		wantWalk(t, x.Tip, 1, 2, []api.Batch{roomy(x), roomy(x)}, end, time)
	}
	end, time := batch.Walk(tip(1, 3), 9, 4, row()[:5]...)
	wantWalk(t, tip(1, 3), 9, 4, slices.Clone(row()[:5]), end, time)
}

// R1: lists that are long make no call panic.
func TestLongLists(t *testing.T) {
	const n = 1 << 16
	for _, x := range []api.Batch{{Reqs: make([]api.Req, n)}, {Fill: true, Reqs: make([]api.Req, n)}, {Reqs: slices.Repeat(plain().Reqs, n)}} {
		wantMayLong(t, x)
		if !batch.Same(x, copyOf(x)) || batch.Same(x, plain()) || batch.Valid(tip(0, 0), x) == x.Fill {
			t.Error("what is long is not the same as itself, or as what is not, or is not valid by its Tip")
		}
	}
	wantAsModel(t, make([]byte, n), n/2)
	wantAsModel(t, bytes.Repeat([]byte{3}, n), 0)
	chain := []api.Batch{{}}
	for slot := 1; slot < n; slot++ {
		chain = append(chain, on(tip(slot-1, slot), slot, slot))
	}
	if got, time := batch.Walk(tip(0, 0), 4, 1, chain...); got != tip(n-1, n) || time != n-1 {
		t.Errorf("a long walk ends at %v, %d", got, time)
	}
}

func wantMayLong(t *testing.T, x api.Batch) {
	t.Helper()
	if put, code := batch.Put(x); len(put) != 0 || code != api.ErrArg || batch.May(x) {
		t.Errorf("what is long is put as %d bytes, with code %d", len(put), code)
	}
}

// R3: a nil list and an empty one are the same to each call.
func TestNilAndEmpty(t *testing.T) {
	for _, x := range append(wellFormed(), notWellFormed()...) {
		b, code := batch.Put(copyOf(x))
		empty := x
		empty.Reqs = append([]api.Req{}, x.Reqs...)
		wantPut(t, empty, string(b), code)
		wantMay(t, empty, code == api.OK)
		wantSame(t, copyOf(x), empty, true)
		wantValid(t, x.Tip, empty, !x.Fill)
	}
}

// R4

// roomy returns b in memory of its own, where its list goes on behind its end.
func roomy(b api.Batch) api.Batch {
	b.Reqs = append(slices.Clone(b.Reqs), keep(1), take(9, "?"), api.Req{})[:len(b.Reqs)]
	return b
}

// throughout returns b with its list up to its capacity, in memory of its own.
func throughout(b api.Batch) api.Batch {
	b.Reqs = b.Reqs[:cap(b.Reqs)]
	return copyOf(b)
}

// No call changes the batches that it is handed, nor what lies behind the ends
// of their lists, whatever it tells (R5, too: also with a code other than OK).
func TestBatchesStay(t *testing.T) {
	for _, x := range append(wellFormed(), notWellFormed()...) {
		mine := roomy(x)
		before := throughout(mine)
		batch.May(mine)
		batch.Put(mine)
		batch.Valid(mine.Tip, mine)
		for _, other := range append(wellFormed(), x) {
			batch.Same(mine, other)
			batch.Same(other, mine)
		}
		batch.Walk(mine.Tip, 1, 2, mine, mine)
		if after := throughout(mine); !same(after, before) {
			t.Errorf("calls turned %+v into %+v", before, after)
		}
	}
}

func TestRowsStay(t *testing.T) {
	var bs []api.Batch
	for _, b := range row() {
		bs = append(bs, roomy(b))
	}
	var before []api.Batch
	for _, b := range bs {
		before = append(before, throughout(b))
	}
	for n := range len(bs) + 1 {
		batch.Walk(tip(1, 3), 9, 4, bs[:n]...)
		batch.Walk(tip(1, 3), 9, -1, bs[n:]...)
	}
	for i, b := range bs {
		if after := throughout(b); !same(after, before[i]) {
			t.Errorf("walks turned %+v into %+v", before[i], after)
		}
	}
}

func TestReadingsLeaveTheirBytes(t *testing.T) {
	eachText(func(whole []byte) {
		before := bytes.Clone(whole)
		b := whole[:len(whole)-len(whole)/8] // what lies behind its end is not its own
		for _, at := range []int{-1, 0, 1, 33, len(b), len(b) + 1} {
			batch.Get(b, at)
		}
		if !bytes.Equal(whole, before) {
			t.Fatalf("readings turned %q into %q", before, whole)
		}
	})
}

func TestBytesAreNotRetained(t *testing.T) {
	for _, want := range wellFormed() {
		b := []byte(text(want))
		got, _, _ := batch.Get(b, 0)
		scrawl(b, '#')
		if !same(got, want) {
			t.Errorf("what was read turned from %+v into %+v", want, got)
		}
	}
}

// scrawl writes into all of a list, and into its spare capacity.
func scrawl[T any](l []T, v T) {
	all := l[:cap(l)]
	for i := range all {
		all[i] = v
	}
}

// Whoever writes into the batch that was put changes no bytes of it; whoever
// writes into bytes that were put, and into their spare capacity, changes no
// other result, and no batch.
func TestBytesAreNewMemory(t *testing.T) {
	for _, x := range wellFormed() {
		mine := roomy(x)
		first, _ := batch.Put(mine)
		second, _ := batch.Put(mine)
		want := bytes.Clone(second)
		scrawl(first, '#')
		scrawl(second[len(second):], '#')
		if !same(mine, x) || !bytes.Equal(second, want) {
			t.Errorf("writing into the first result turned %+v into %+v, and the second from %q into %q", x, mine, want, second)
		}
		if third, _ := batch.Put(mine); !bytes.Equal(third, want) || len(want) == 0 {
			t.Errorf("writing into the first result turned the third from %q into %q", want, third)
		}
		scrawl(mine.Reqs, take(-7, "?"))
		if !bytes.Equal(second, want) {
			t.Errorf("writing into %+v turned the result from %q into %q", x, want, second)
		}
	}
}

// Batches that are read are new memory, their spare capacity too.
func TestBatchesAreNewMemory(t *testing.T) {
	for _, x := range wellFormed() {
		b := []byte(text(x))
		first, _, _ := batch.Get(b, 0)
		second, _, _ := batch.Get(b, 0)
		scrawl(first.Reqs, take(-7, "?"))
		scrawl(second.Reqs[len(second.Reqs):], take(-7, "?"))
		if !same(second, x) || string(b) != text(x) {
			t.Errorf("writing into the first result turned the second from %+v into %+v", x, second)
		}
		if third, _, _ := batch.Get(b, 0); !same(third, x) {
			t.Errorf("writing into the first result turned the third from %+v into %+v", x, third)
		}
	}
}

// R5: a call that fails leaves nothing behind for those that follow.
func TestFailuresLeaveNothing(t *testing.T) {
	for _, w := range wrongs() {
		bad := turned(plain(), w.turn)
		wantPut(t, bad, "", api.ErrArg)
		wantPut(t, plain(), plainText, api.OK)
		wantNone(t, text(bad), w.code)
		wantGet(t, plainText, 0, plain(), len(plainText), api.OK)
	}
}
