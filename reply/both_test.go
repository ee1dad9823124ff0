package reply_test

import (
	"bytes"
	"strings"
	"testing"

	"padlock/api"
	"padlock/reply"
)

// calls are those of replies, or those of answers: what is promised of both in
// the same words is tested here once.
type calls[T any] struct {
	each func(f func(x T)) // of all that is tried, well-formed or not
	may  func(x T) bool
	same func(a, b T) bool
	size func(x T) int
	put  func(x T) ([]byte, api.Errno)
	get  func(b []byte, at int) (T, int, api.Errno)
}

// sizeOf tells how many bytes a reply has, by its list.
func sizeOf(r api.Reply) int {
	size := 11
	for _, g := range r.Held {
		size += 9 + len(g.Name)
	}
	return size
}

func ofReplies() calls[api.Reply] {
	return calls[api.Reply]{eachReply, may, same, sizeOf, reply.Put, reply.Get}
}

func ofAnswers() calls[api.Answer] {
	return calls[api.Answer]{eachAnswer, mayAnswer, sameAnswer, func(a api.Answer) int { return 9 + sizeOf(a.Reply) }, reply.PutAnswer, reply.GetAnswer}
}

// bytesOf puts x, which is well-formed.
func (k calls[T]) bytesOf(t *testing.T, x T) []byte {
	t.Helper()
	b, code := k.put(x)
	if code != api.OK {
		t.Fatalf("%+v is put with code %d", x, code)
	}
	return b
}

// wantRead reads from index at on.
func (k calls[T]) wantRead(t *testing.T, b []byte, at int, want T, wantNext int, wantCode api.Errno) {
	t.Helper()
	if x, next, code := k.get(b, at); !k.same(x, want) || next != wantNext || code != wantCode {
		t.Errorf("%q from %d is read as %+v, %d, %d; want %+v, %d, %d", b, at, x, next, code, want, wantNext, wantCode)
	}
}

// wantShort reads from index at on, where bytes are too few.
func (k calls[T]) wantShort(t *testing.T, b []byte, at int) {
	t.Helper()
	var zero T
	k.wantRead(t, b, at, zero, 0, api.ErrShort)
}

// wellFormed returns all that is tried and well-formed.
func (k calls[T]) wellFormed() (all []T) {
	k.each(func(x T) {
		if k.may(x) {
			all = append(all, x)
		}
	})
	return all
}

// 5.1, 5.2: proper prefixes, whatever the slice has behind its end

func (k calls[T]) testPrefixes(t *testing.T) {
	for _, x := range k.wellFormed() {
		whole := append(k.bytesOf(t, x), "spare"...)
		size := k.size(x)
		for n := range size {
			k.wantShort(t, whole[:n], 0)
			k.wantShort(t, append([]byte("\x01\x02"), whole[:n]...), 2)
		}
		k.wantRead(t, whole[:size], 0, x, size, api.OK)
		if t.Failed() {
			return // one that fails tells enough
		}
	}
}

func TestPrefixes(t *testing.T) {
	ofReplies().testPrefixes(t)
	ofAnswers().testPrefixes(t)
}

// 5.1, 5.2: indices below 0, and behind the end

func (k calls[T]) testNowhere(t *testing.T) {
	b := k.bytesOf(t, k.wellFormed()[0])
	for _, at := range append([]int{1, len(b) - 1, len(b), len(b) + 1}, far...) {
		k.wantShort(t, b, at)
		k.wantShort(t, nil, at)
		k.wantShort(t, []byte{}, at)
	}
	k.wantShort(t, nil, 0)
	k.wantShort(t, []byte{}, 0)
}

func TestReadingsFromNowhere(t *testing.T) {
	ofReplies().testNowhere(t)
	ofAnswers().testNowhere(t)
}

// 5.3

func (k calls[T]) testReadAsPut(t *testing.T) {
	for _, ahead := range []string{"", "\x00", strings.Repeat("\x00", 11), strings.Repeat("\xff", 23)} {
		b := []byte(ahead)
		put := k.wellFormed()
		for _, x := range put {
			b = append(b, k.bytesOf(t, x)...)
		}
		at := len(ahead)
		for _, x := range put {
			if got, next, code := k.get(b, at); !k.same(got, x) || next != at+k.size(x) || code != api.OK {
				t.Fatalf("%+v is read at %d as %+v, %d, %d", x, at, got, next, code)
			}
			at += k.size(x)
		}
		if at != len(b) || len(put) == 0 {
			t.Errorf("%d that were put end at %d of %d bytes", len(put), at, len(b))
		}
	}
}

func TestReadAsPut(t *testing.T) {
	ofReplies().testReadAsPut(t)
	ofAnswers().testReadAsPut(t)
}

// 5.1, 5.2: nothing else is put; beside the code there is nothing (R3)

func (k calls[T]) testNothingElseIsPut(t *testing.T) {
	k.each(func(x T) {
		if k.may(x) {
			return
		}
		if b, code := k.put(x); len(b) != 0 || code != api.ErrArg {
			t.Fatalf("%+v is put as %q, %d; want none, ErrArg", x, b, code)
		}
	})
}

func TestNothingElseIsPut(t *testing.T) {
	ofReplies().testNothingElseIsPut(t)
	ofAnswers().testNothingElseIsPut(t)
}

// There are no two ways to write the same: what is read is put as it was read.
func (k calls[T]) testPutAsRead(t *testing.T) {
	read := 0
	eachText(func(b []byte) {
		x, next, code := k.get(b, 0)
		if code != api.OK {
			return
		}
		read++
		if again := k.bytesOf(t, x); !bytes.Equal(again, b[:next]) {
			t.Fatalf("%q is read as %+v, which is put as %q", b[:next], x, again)
		}
	})
	if read == 0 {
		t.Error("nothing was read")
	}
}

func TestPutAsRead(t *testing.T) {
	ofReplies().testPutAsRead(t)
	ofAnswers().testPutAsRead(t)
}
