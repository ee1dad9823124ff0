package octet_test

import (
	"bytes"
	"math"
	"strings"
	"testing"

	"padlock/api"
	"padlock/octet"
)

const top = 1<<62 - 1

// nums are numbers that have an encoding, ascending.
var nums = []int{0, 1, 127, 128, 255, 256, 258, 1<<16 - 1, 1 << 16, 1<<32 - 1, 1 << 32, 1 << 55, 1 << 56, api.High, top - 1, top}

// far are indices that no slice of a few bytes has.
var far = []int{-1, -2, -8, -9, math.MinInt, math.MinInt + 1, math.MinInt + 8, 100, math.MaxInt - 8, math.MaxInt - 7, math.MaxInt - 1, math.MaxInt}

func putNum(t *testing.T, v int) []byte {
	t.Helper()
	b, code := octet.PutNum(v)
	if code != api.OK {
		t.Fatalf("PutNum(%d): code %d", v, code)
	}
	return b
}

func putByte(t *testing.T, v int) []byte {
	t.Helper()
	b, code := octet.PutByte(v)
	if code != api.OK {
		t.Fatalf("PutByte(%d): code %d", v, code)
	}
	return b
}

func putText(t *testing.T, s string) []byte {
	t.Helper()
	b, code := octet.PutText(s)
	if code != api.OK {
		t.Fatalf("PutText of %d bytes: code %d", len(s), code)
	}
	return b
}

func wantNum(t *testing.T, b []byte, at, v, next int, code api.Errno) {
	t.Helper()
	gotV, gotNext, gotCode := octet.Num(b, at)
	if gotV != v || gotNext != next || gotCode != code {
		t.Errorf("Num(%q, %d) = %d, %d, %d; want %d, %d, %d", b, at, gotV, gotNext, gotCode, v, next, code)
	}
}

func wantByte(t *testing.T, b []byte, at, v, next int, code api.Errno) {
	t.Helper()
	gotV, gotNext, gotCode := octet.Byte(b, at)
	if gotV != v || gotNext != next || gotCode != code {
		t.Errorf("Byte(%q, %d) = %d, %d, %d; want %d, %d, %d", b, at, gotV, gotNext, gotCode, v, next, code)
	}
}

func wantText(t *testing.T, b []byte, at, most int, s string, next int, code api.Errno) {
	t.Helper()
	gotS, gotNext, gotCode := octet.Text(b, at, most)
	if gotS != s || gotNext != next || gotCode != code {
		t.Errorf("Text(%q, %d, %d) = %q, %d, %d; want %q, %d, %d", b, at, most, gotS, gotNext, gotCode, s, next, code)
	}
}

func wantEnd(t *testing.T, b []byte, at int, code api.Errno) {
	t.Helper()
	if got := octet.End(b, at); got != code {
		t.Errorf("End(%q, %d) = %d; want %d", b, at, got, code)
	}
}

// 1.1

func TestPutNum(t *testing.T) {
	for _, c := range []struct {
		v    int
		want string
	}{
		{0, "\x00\x00\x00\x00\x00\x00\x00\x00"},
		{1, "\x00\x00\x00\x00\x00\x00\x00\x01"},
		{255, "\x00\x00\x00\x00\x00\x00\x00\xff"},
		{258, "\x00\x00\x00\x00\x00\x00\x01\x02"},
		{0x0102030405060708, "\x01\x02\x03\x04\x05\x06\x07\x08"},
		{api.High, "\x20\x00\x00\x00\x00\x00\x00\x00"},
		{top, "\x3f\xff\xff\xff\xff\xff\xff\xff"},
	} {
		if b, code := octet.PutNum(c.v); string(b) != c.want || code != api.OK {
			t.Errorf("PutNum(%d) = %q, %d", c.v, b, code)
		}
	}
	for _, v := range []int{-1, -258, math.MinInt, math.MinInt + 1, top + 1, top + 2, math.MaxInt} {
		if b, code := octet.PutNum(v); len(b) != 0 || code != api.ErrArg {
			t.Errorf("PutNum(%d) = %q, %d; want ErrArg", v, b, code)
		}
	}
}

func TestNum(t *testing.T) {
	b := []byte("\x00\x00\x00\x00\x00\x00\x01\x02\x03")
	wantNum(t, b, 0, 258, 8, api.OK)
	wantNum(t, b, 1, 258<<8+3, 9, api.OK)
	wantNum(t, []byte("\x3f\xff\xff\xff\xff\xff\xff\xff"), 0, top, 8, api.OK)
}

func TestNumShort(t *testing.T) {
	eight := make([]byte, 8, 40)
	wantNum(t, nil, 0, 0, 0, api.ErrShort)
	wantNum(t, []byte{}, 0, 0, 0, api.ErrShort)
	for size := range 8 {
		wantNum(t, eight[:size], 0, 0, 0, api.ErrShort)
	}
	for at := 1; at <= 9; at++ {
		wantNum(t, eight, at, 0, 0, api.ErrShort)
	}
	for _, at := range far {
		wantNum(t, eight, at, 0, 0, api.ErrShort)
		wantNum(t, nil, at, 0, 0, api.ErrShort)
	}
}

func TestNumForm(t *testing.T) {
	for _, s := range []string{
		"\x40\x00\x00\x00\x00\x00\x00\x00",
		"\x40\x00\x00\x00\x00\x00\x00\x01",
		"\x7f\xff\xff\xff\xff\xff\xff\xff",
		"\x80\x00\x00\x00\x00\x00\x00\x00",
		"\x80\x00\x00\x00\x00\x00\x00\x01",
		"\xff\xff\xff\xff\xff\xff\xff\xff",
	} {
		wantNum(t, []byte(s), 0, 0, 0, api.ErrForm)
		wantNum(t, []byte("ab"+s+"c"), 2, 0, 0, api.ErrForm)
	}
}

// Seven bytes that could only begin a number that is too great are ErrShort: it is named first.
func TestNumShortComesFirst(t *testing.T) {
	b := []byte("\xff\xff\xff\xff\xff\xff\xff\xff")
	wantNum(t, b[:7], 0, 0, 0, api.ErrShort)
	wantNum(t, b, 1, 0, 0, api.ErrShort)
	wantNum(t, b, -1, 0, 0, api.ErrShort)
}

func TestPutByte(t *testing.T) {
	for v := range 256 {
		if b, code := octet.PutByte(v); string(b) != string([]byte{byte(v)}) || code != api.OK {
			t.Errorf("PutByte(%d) = %q, %d", v, b, code)
		}
	}
	for _, v := range []int{-1, -255, -256, 256, 257, 1 << 32, math.MinInt, math.MaxInt} {
		if b, code := octet.PutByte(v); len(b) != 0 || code != api.ErrArg {
			t.Errorf("PutByte(%d) = %q, %d; want ErrArg", v, b, code)
		}
	}
}

func TestByte(t *testing.T) {
	b := []byte{0, 255, 7}[:2]
	wantByte(t, b, 0, 0, 1, api.OK)
	wantByte(t, b, 1, 255, 2, api.OK)
	wantByte(t, b, 2, 0, 0, api.ErrShort)
	wantByte(t, b, 3, 0, 0, api.ErrShort)
	wantByte(t, nil, 0, 0, 0, api.ErrShort)
	wantByte(t, []byte{}, 0, 0, 0, api.ErrShort)
	for _, at := range far {
		wantByte(t, b, at, 0, 0, api.ErrShort)
	}
}

// 1.2

func TestPutText(t *testing.T) {
	for _, c := range []struct{ s, want string }{
		{"", "\x00"},
		{"ab", "\x02ab"},
		{"\x00\xff\xfe", "\x03\x00\xff\xfe"},
		{"é", "\x02\xc3\xa9"},
		{strings.Repeat("q", 254), "\xfe" + strings.Repeat("q", 254)},
		{strings.Repeat("q", 255), "\xff" + strings.Repeat("q", 255)},
	} {
		if b, code := octet.PutText(c.s); string(b) != c.want || code != api.OK {
			t.Errorf("PutText(%q) = %q, %d", c.s, b, code)
		}
	}
	for _, size := range []int{256, 257, 511, 512, 1 << 16} {
		if b, code := octet.PutText(strings.Repeat("q", size)); len(b) != 0 || code != api.ErrLong {
			t.Errorf("PutText of %d bytes = %q, %d; want ErrLong", size, b, code)
		}
	}
	// 128 runes, but 256 bytes: bytes are counted.
	if b, code := octet.PutText(strings.Repeat("é", 128)); len(b) != 0 || code != api.ErrLong {
		t.Errorf("PutText of 128 runes = %q, %d; want ErrLong", b, code)
	}
}

func TestText(t *testing.T) {
	b := []byte("\x02ab\x00\x01c")
	wantText(t, b, 0, 2, "ab", 3, api.OK)
	wantText(t, b, 0, 12, "ab", 3, api.OK)
	wantText(t, b, 0, math.MaxInt, "ab", 3, api.OK)
	wantText(t, b, 3, 0, "", 4, api.OK)
	wantText(t, b, 4, 1, "c", 6, api.OK)
	wantText(t, []byte{0}, 0, 0, "", 1, api.OK)
	wantText(t, []byte("\x03\x00\xff\xfe"), 0, 3, "\x00\xff\xfe", 4, api.OK)
	long := strings.Repeat("q", 255)
	wantText(t, []byte("\xff"+long), 0, 255, long, 256, api.OK)
	wantText(t, []byte("\xff"+long), 0, 254, "", 0, api.ErrLong)
	wantText(t, []byte("\xff"+long[1:]), 0, 255, "", 0, api.ErrShort)
}

func TestTextWithoutLength(t *testing.T) {
	b := []byte("\x01a\x00")[:2]
	wantText(t, b, 2, 9, "", 0, api.ErrShort)
	wantText(t, b, 3, 9, "", 0, api.ErrShort)
	wantText(t, nil, 0, 9, "", 0, api.ErrShort)
	wantText(t, []byte{}, 0, 0, "", 0, api.ErrShort)
	for _, at := range far {
		wantText(t, b, at, 9, "", 0, api.ErrShort)
		wantText(t, b, at, -1, "", 0, api.ErrShort)
	}
}

func TestTextLong(t *testing.T) {
	wantText(t, []byte("\x03abc"), 0, 2, "", 0, api.ErrLong)
	wantText(t, []byte("\x01a"), 0, 0, "", 0, api.ErrLong)
	for _, most := range []int{-1, math.MinInt} {
		wantText(t, []byte("\x00"), 0, most, "", 0, api.ErrLong)
	}
}

// A length that is both too great and not there is ErrLong: it is named before the second ErrShort.
func TestTextLongComesBeforeBytesTooFew(t *testing.T) {
	b := []byte("\x03abc")[:3]
	wantText(t, b, 0, 2, "", 0, api.ErrLong)
	wantText(t, b, 0, 3, "", 0, api.ErrShort)
	wantText(t, b, 0, 9, "", 0, api.ErrShort)
	wantText(t, []byte("\xff"), 0, 254, "", 0, api.ErrLong)
	wantText(t, []byte("\xff"), 0, 255, "", 0, api.ErrShort)
	wantText(t, []byte("x\x01"), 1, 0, "", 0, api.ErrLong)
	wantText(t, []byte("x\x01"), 1, 1, "", 0, api.ErrShort)
}

func TestEnd(t *testing.T) {
	b := []byte("abcd")[:3]
	wantEnd(t, b, 3, api.OK)
	wantEnd(t, b, 0, api.ErrLong)
	wantEnd(t, b, 1, api.ErrLong)
	wantEnd(t, b, 2, api.ErrLong)
	wantEnd(t, b, 4, api.ErrShort)
	wantEnd(t, nil, 0, api.OK)
	wantEnd(t, []byte{}, 0, api.OK)
	wantEnd(t, nil, 1, api.ErrShort)
	wantEnd(t, nil, -1, api.ErrShort)
	for _, at := range far {
		wantEnd(t, b, at, api.ErrShort)
	}
}

// 1.3

func TestReadAsPutWhereverItStands(t *testing.T) {
	texts := []string{"", "a", "\x00", "\xff\xff", "lock", strings.Repeat("\xc3", 255)}
	for _, ahead := range []string{"", "\x00", "abcdefg", "\xff\xff\xff\xff\xff\xff\xff\xff\xff"} {
		b := []byte(ahead)
		for _, v := range nums {
			b = append(b, putNum(t, v)...)
		}
		for _, s := range texts {
			b = append(b, putText(t, s)...)
			b = append(b, putByte(t, len(s))...)
		}
		at := len(ahead)
		for _, v := range nums {
			wantNum(t, b, at, v, at+8, api.OK)
			at += 8
		}
		for _, s := range texts {
			wantText(t, b, at, len(s), s, at+1+len(s), api.OK)
			at += 1 + len(s)
			wantByte(t, b, at, len(s), at+1, api.OK)
			at++
		}
		wantEnd(t, b, at, api.OK)
	}
}

func TestEveryByteIsReadAsPut(t *testing.T) {
	for v := range 256 {
		b := append([]byte("xyz"), putByte(t, v)...)
		wantByte(t, b, 3, v, 4, api.OK)
	}
}

func TestEveryLengthIsReadAsPut(t *testing.T) {
	for size := range 256 {
		s := strings.Repeat("r", size)
		b := append([]byte("xyz"), putText(t, s)...)
		wantText(t, b, 3, size, s, 4+size, api.OK)
		wantText(t, b, 3, size-1, "", 0, api.ErrLong)
	}
}

func TestBytesAreOrderedAsNumbers(t *testing.T) {
	for i := range nums {
		for j := range nums {
			want := 0
			if i < j {
				want = -1
			} else if i > j {
				want = 1
			}
			if got := bytes.Compare(putNum(t, nums[i]), putNum(t, nums[j])); got != want {
				t.Errorf("bytes of %d and %d compare as %d; want %d", nums[i], nums[j], got, want)
			}
		}
	}
}

// R1

// words calls f with all texts of up to four bytes of an alphabet of lengths and bits that matter.
func words(f func(b []byte)) {
	alphabet := []byte{0, 1, 2, 3, 64, 128, 255}
	level := [][]byte{{}}
	for range 5 {
		var next [][]byte
		for _, b := range level {
			f(b)
			for _, x := range alphabet {
				next = append(next, append(bytes.Clone(b), x))
			}
		}
		level = next
	}
}

// Readings of any bytes at any index end without a panic, twice with the same
// results, which are zero together with a code (R3).
func TestReadingsOfAnything(t *testing.T) {
	ats := append([]int{0, 1, 2, 3, 4, 5}, far...)
	words(func(b []byte) {
		for _, at := range ats {
			v, next, code := octet.Num(b, at)
			wantNum(t, b, at, v, next, code)
			if code == api.OK || v != 0 || next != 0 {
				t.Fatalf("Num(%q, %d) = %d, %d, %d", b, at, v, next, code)
			}
			v, next, code = octet.Byte(b, at)
			wantByte(t, b, at, v, next, code)
			if code != api.OK && (v != 0 || next != 0) {
				t.Fatalf("Byte(%q, %d) = %d, %d, %d", b, at, v, next, code)
			}
			for _, most := range []int{math.MinInt, -1, 0, 1, 2, 255, 256, math.MaxInt} {
				s, next, code := octet.Text(b, at, most)
				wantText(t, b, at, most, s, next, code)
				if code != api.OK && (s != "" || next != 0) {
					t.Fatalf("Text(%q, %d, %d) = %q, %d, %d", b, at, most, s, next, code)
				}
			}
			wantEnd(t, b, at, octet.End(b, at))
		}
	})
}

// R4

func TestReadingsLeaveTheirBytes(t *testing.T) {
	whole := []byte("x\x00\x00\x00\x00\x00\x00\x01\x02\x02ab\x07 and what lies in the spare capacity")
	before := bytes.Clone(whole)
	b := whole[:13]
	for at := -1; at <= 14; at++ {
		octet.Num(b, at)
		octet.Byte(b, at)
		octet.Text(b, at, 9)
		octet.End(b, at)
	}
	if !bytes.Equal(whole, before) {
		t.Errorf("readings turned %q into %q", before, whole)
	}
}

func TestTextIsNotRetained(t *testing.T) {
	for _, want := range []string{"a", "ab", "a longer text, of more than thirty-two bytes"} {
		b := putText(t, want)
		s, _, _ := octet.Text(b, 0, 255)
		for i := range b {
			b[i] = '#'
		}
		if s != want {
			t.Errorf("the text that was read turned from %q into %q", want, s)
		}
	}
}

// Whoever writes into a result, and into its spare capacity, changes no other result.
func TestResultsAreNewMemory(t *testing.T) {
	puts := []func() []byte{
		func() []byte { return putNum(t, 258) },
		func() []byte { return putByte(t, 7) },
		func() []byte { return putText(t, "ab") },
		func() []byte { return putText(t, "") },
	}
	for i, put := range puts {
		first, second := put(), put()
		want := bytes.Clone(second)
		for _, b := range [][]byte{first, second} {
			spare := b[len(b):cap(b)]
			for k := range spare {
				spare[k] = '#'
			}
		}
		for k := range first {
			first[k] = '#'
		}
		if !bytes.Equal(second, want) {
			t.Errorf("put %d: writing into the first result turned the second from %q into %q", i, want, second)
		}
		if third := put(); !bytes.Equal(third, want) {
			t.Errorf("put %d: writing into the first result turned the third from %q into %q", i, want, third)
		}
	}
}
