package batch_test

import (
	"math"
	"strings"
	"testing"

	"padlock/api"
	"padlock/batch"
)

// far are indices that no slice of a few bytes has.
var far = []int{-1, -2, -8, -34, math.MinInt, math.MinInt + 1, math.MinInt + 8, 1 << 20, math.MaxInt - 34, math.MaxInt - 8, math.MaxInt - 7, math.MaxInt - 1, math.MaxInt}

func wantGet(t *testing.T, b string, at int, want api.Batch, wantNext int, wantCode api.Errno) {
	t.Helper()
	if got, next, code := batch.Get([]byte(b), at); !same(got, want) || next != wantNext || code != wantCode {
		t.Errorf("Get(%q, %d) = %+v, %d, %d; want %+v, %d, %d", b, at, got, next, code, want, wantNext, wantCode)
	}
}

// wantNone reads a batch that there is not: at the start, and further on.
func wantNone(t *testing.T, b string, code api.Errno) {
	t.Helper()
	wantGet(t, b, 0, api.Batch{}, 0, code)
	wantGet(t, "\x00\x01"+b, 2, api.Batch{}, 0, code)
}

// 12.1: Get

func TestGet(t *testing.T) {
	wantGet(t, "\x01", 0, api.Batch{Fill: true}, 1, api.OK)
	wantGet(t, strings.Repeat("\x00", 34), 0, api.Batch{}, 34, api.OK)
	wantGet(t, plainText, 0, plain(), len(plainText), api.OK)
	for _, b := range wellFormed() {
		for _, ahead := range []string{"", "\x00", "\x01", "\xff\xff\xff", strings.Repeat("\x02", 40)} {
			for _, behind := range []string{"", "\x00", "\x01", twelve, strings.Repeat("\xff", 40)} {
				wantGet(t, ahead+text(b)+behind, len(ahead), b, len(ahead)+len(text(b)), api.OK)
			}
		}
	}
}

func TestGetFromNowhere(t *testing.T) {
	for _, b := range []string{"\x01", plainText} {
		for _, at := range append([]int{len(b), len(b) + 1}, far...) {
			wantGet(t, b, at, api.Batch{}, 0, api.ErrShort)
			wantGet(t, "", at, api.Batch{}, 0, api.ErrShort)
		}
	}
	wantGet(t, "", 0, api.Batch{}, 0, api.ErrShort)
	wantGet(t, plainText, len(plainText)-1, api.Batch{}, 0, api.ErrShort)
	if got, next, code := batch.Get(nil, 0); !same(got, api.Batch{}) || next != 0 || code != api.ErrShort {
		t.Errorf("Get of no bytes is %+v, %d, %d", got, next, code)
	}
}

// Proper prefixes, whatever the slice has behind its end.
func TestGetOfPrefixes(t *testing.T) {
	for _, b := range wellFormed() {
		whole := []byte("\xff" + text(b) + "spare")
		for n := range len(text(b)) {
			if got, next, code := batch.Get(whole[:1+n], 1); !same(got, api.Batch{}) || next != 0 || code != api.ErrShort {
				t.Errorf("Get of %d bytes of %+v is %+v, %d, %d", n, b, got, next, code)
			}
		}
	}
}

// Only 0 and 1 are first bytes: behind any other nothing is read, and behind a
// 1 neither.
func TestGetOfFirstBytes(t *testing.T) {
	for _, behind := range []string{"", "\x00", great, plainText[1:], strings.Repeat("\xff", 60)} {
		wantGet(t, "\x01"+behind, 0, api.Batch{Fill: true}, 1, api.OK)
		for first := 2; first <= 255; first++ {
			wantNone(t, string([]byte{byte(first)})+behind, api.ErrForm)
		}
	}
	wantNone(t, "\x00", api.ErrShort)
	wantNone(t, "\x00"+great, api.ErrForm)
}

// Numbers that are none are told at once, those that a batch may not have after
// all was read.
func TestGetOfNumbers(t *testing.T) {
	for n := range 4 {
		ahead := "\x00" + strings.Repeat(one, n)
		behind := strings.Repeat(one, 3-n) + "\x01" + ofOne
		for _, v := range []string{great, "\x7f\xff\xff\xff\xff\xff\xff\xff", "\x80" + zeros, "\xff\xff\xff\xff\xff\xff\xff\xff"} {
			for i := range len(v) {
				wantNone(t, ahead+v[:i], api.ErrShort)
			}
			wantNone(t, ahead+v, api.ErrForm)
			wantNone(t, ahead+v+behind, api.ErrForm)
		}
		for _, v := range []string{above, most} {
			whole := ahead + v + behind
			for i := range len(whole) {
				wantNone(t, whole[:i], api.ErrShort)
			}
			wantNone(t, whole, api.ErrForm)
		}
		b := ahead + high + behind
		if got, next, code := batch.Get([]byte(b), 0); next != len(b) || code != api.OK || got.View+got.Tip.View+got.Tip.Slot+got.Time != api.High+3 {
			t.Errorf("Get(%q, 0) = %+v, %d, %d", b, got, next, code)
		}
	}
}

// Numbers of requests at their limit and above it, whatever follows: behind one
// that is too great nothing is read.
func TestGetOfHowManyRequests(t *testing.T) {
	head := "\x00" + one + one + one + one
	rows := []string{"", ofOne, ofOne + ofThree, ofOne + ofThree + strings.Replace(ofOne, "\x01", "\x05", 1)}
	for n, reqs := range rows {
		b := head + string(rune(n)) + reqs
		if got, next, code := batch.Get([]byte(b), 0); len(got.Reqs) != n || next != len(b) || code != api.OK {
			t.Errorf("Get(%q, 0) = %+v, %d, %d", b, got, next, code)
		}
		for i := range n {
			wantNone(t, head+string(rune(n))+rows[i], api.ErrShort)
		}
	}
	for n := 4; n <= 255; n++ {
		b := head + string([]byte{byte(n)})
		wantNone(t, b, api.ErrForm)
		wantNone(t, b+rows[3], api.ErrForm)
		wantNone(t, b+rows[3][:9], api.ErrForm)
		wantNone(t, b+strings.Repeat(ofOne, n), api.ErrForm)
		wantNone(t, b+"\x01"+one+"\x03"+one+"\x0d", api.ErrForm)
	}
	// One more, with all of them there, and of different clients.
	four := full()
	four.Reqs = []api.Req{keep(0), keep(1), keep(2), keep(3)}
	wantNone(t, text(four), api.ErrForm)
}

func TestGetOfWhatIsNotWellFormed(t *testing.T) {
	for _, w := range wrongs() {
		b := turned(plain(), w.turn)
		for _, behind := range []string{"", "\x00", twelve} {
			wantNone(t, text(b)+behind, w.code)
		}
	}
}

// R2: the errors of the fields come in their order, and that the batch is not
// well-formed comes last.
func TestGetTellsTheFirstError(t *testing.T) {
	head := "\x00" + one + one + one + one
	noClient := "\x08" + ofOne[1:]
	for _, c := range []struct {
		b    string
		want api.Errno
	}{
		{"\x02" + great, api.ErrForm},                                                    // no first byte, a View of 2^62
		{"\x00" + above + one[:7], api.ErrShort},                                         // a View above High, no Tip
		{"\x00" + great + one[:7], api.ErrForm},                                          // a View of 2^62, no Tip
		{"\x00" + above + great, api.ErrForm},                                            // a View above High, a Tip's View of 2^62
		{"\x00" + above + one + one + one, api.ErrShort},                                 // a View above High, no number of Reqs
		{"\x00" + one + one + one + above + "\x04", api.ErrForm},                         // a Time above High, four Reqs
		{"\x00" + one + one + one + above + "\x01" + ofOne[:18], api.ErrShort},           // a Time above High, a request cut off
		{"\x00" + one + one + above + one + "\x01" + ofThree[:18] + "\x0d", api.ErrLong}, // a Tip's Slot above High, a name too long
		{"\x00" + one + one + one + great + "\x03", api.ErrForm},                         // a Time of 2^62, no requests
		{head + "\x01" + noClient[:18], api.ErrShort},                                    // no client, cut off
		{head + "\x02" + noClient, api.ErrForm},                                          // no client, no second request
		{head + "\x02" + noClient + ofThree[:18] + "\x0d", api.ErrForm},                  // no client, a name too long behind it
		{head + "\x02" + ofThree[:18] + "\x0d" + noClient, api.ErrLong},                  // a name too long, no client behind it
		{head + "\x02" + ofOne + noClient, api.ErrForm},                                  // no client in the second request
		{head + "\x02" + ofOne, api.ErrShort},                                            // no second request
		{head + "\x02" + ofOne + ofOne[:18], api.ErrShort},                               // one client twice, cut off
		{head + "\x02" + ofOne + ofOne, api.ErrForm},                                     // one client twice
		{head + "\x03" + ofOne + ofOne, api.ErrShort},                                    // one client twice, no third request
		{head + "\x03" + ofOne + ofOne + ofThree[:18] + "\x0d", api.ErrLong},             // one client twice, a name too long
		{head + "\x03" + ofOne + ofOne + ofThree[:1] + great, api.ErrForm},               // one client twice, a Seq of 2^62
		{head + "\x03" + ofOne + ofThree + ofOne, api.ErrForm},                           // one client twice, not side by side
		{head + "\x01" + "\x01" + zero + ofOne[9:18] + "\x0d", api.ErrLong},              // Seq 0, a name too long
		{head + "\x01" + "\x01" + great, api.ErrForm},                                    // a Seq of 2^62, no command
		{head + "\x04" + "\x01" + one + "\x02" + one + "\x0d", api.ErrForm},              // four Reqs, a name too long
	} {
		wantNone(t, c.b, c.want)
	}
}
