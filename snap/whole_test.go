package snap_test

import (
	"math"
	"strings"
	"testing"

	"padlock/api"
	"padlock/snap"
)

func behind(done, view, slot int, s state) api.Snap {
	return api.Snap{Done: done, Tip: api.Tip{View: view, Slot: slot}, State: s}
}

// snapText returns x as bytes, as 11.2 says.
func snapText(x api.Snap) string {
	head := text(state{Time: x.Done, Num: x.Tip.View, Token: x.Tip.Slot})[:24]
	return head + text(x.State)
}

func sameSnap(a, b api.Snap) bool {
	return a.Done == b.Done && a.Tip == b.Tip && same(a.State, b.State)
}

func wantMay(t *testing.T, x api.Snap, want bool) {
	t.Helper()
	if got := snap.MaySnap(x); got != want {
		t.Errorf("MaySnap(%+v) = %v; want %v", x, got, want)
	}
}

func wantPutSnap(t *testing.T, x api.Snap, want string, wantCode api.Errno) {
	t.Helper()
	if b, code := snap.PutSnap(x); string(b) != want || code != wantCode {
		t.Errorf("PutSnap(%+v) = %q, %d; want %q, %d", x, b, code, want, wantCode)
	}
}

func wantGetSnap(t *testing.T, b string, at int, want api.Snap, wantNext int, wantCode api.Errno) {
	t.Helper()
	if x, next, code := snap.GetSnap([]byte(b), at); !sameSnap(x, want) || next != wantNext || code != wantCode {
		t.Errorf("GetSnap(%q, %d) = %+v, %d, %d; want %+v, %d, %d", b, at, x, next, code, want, wantNext, wantCode)
	}
}

// wantNoSnap reads a snapshot that there is not: at the start, and further on.
func wantNoSnap(t *testing.T, b string, code api.Errno) {
	t.Helper()
	wantGetSnap(t, b, 0, api.Snap{}, 0, code)
	wantGetSnap(t, "\x00\x05"+b, 2, api.Snap{}, 0, code)
}

// wantWrong puts and reads a snapshot that is not well-formed.
func wantWrong(t *testing.T, x api.Snap) {
	t.Helper()
	wantMay(t, x, false)
	wantPutSnap(t, x, "", api.ErrArg)
	wantNoSnap(t, snapText(x), api.ErrForm)
}

// wantWhole puts and reads a snapshot that is well-formed.
func wantWhole(t *testing.T, x api.Snap) {
	t.Helper()
	wantMay(t, x, true)
	b := snapText(x)
	wantPutSnap(t, x, b, api.OK)
	wantGetSnap(t, b, 0, x, len(b), api.OK)
	wantGetSnap(t, "\xff\x00"+b+"\xff\x00", 2, x, 2+len(b), api.OK)
}

// 11.2: MaySnap, PutSnap, GetSnap

func TestSnaps(t *testing.T) {
	wantWhole(t, api.Snap{})
	wantPutSnap(t, api.Snap{}, strings.Repeat("\x00", 51), api.OK)
	head := "\x00\x00\x00\x00\x00\x00\x01\x02" + zeros + "\x09" + zeros + "\x04"
	wantPutSnap(t, behind(258, 9, 4, plain()), head+plainText, api.OK)
	wantGetSnap(t, head+plainText, 0, behind(258, 9, 4, plain()), 24+len(plainText), api.OK)
	for _, s := range rightStates() {
		wantWhole(t, behind(0, 0, 0, s))
		wantWhole(t, behind(3, 1, 2, s))
		wantWhole(t, behind(api.High, api.High, api.High, s))
	}
	if n := len(snapText(behind(0, 0, 0, full()))); n > api.MaxBytes {
		t.Errorf("what is full has %d bytes", n)
	}
}

// Each number by itself, and none held to another one.
func TestSnapsByTheirNumbers(t *testing.T) {
	for _, v := range []int{0, 1, 256, api.High - 1, api.High} {
		for _, other := range []int{0, 7, api.High} {
			wantWhole(t, behind(v, other, other, plain()))
			wantWhole(t, behind(other, v, other, plain()))
			wantWhole(t, behind(other, other, v, plain()))
		}
	}
	for _, v := range []int{math.MinInt, -api.High, -1, api.High + 1, 1<<62 - 1, 1 << 62, math.MaxInt} {
		for _, s := range []state{{}, plain()} {
			wantWrong(t, behind(v, 0, 0, s))
			wantWrong(t, behind(0, v, 0, s))
			wantWrong(t, behind(0, 0, v, s))
			wantWrong(t, behind(v, v, v, s))
		}
	}
}

func TestSnapsOfWhatIsNotRight(t *testing.T) {
	for _, s := range wrongStates() {
		for _, x := range []api.Snap{behind(0, 0, 0, s), behind(5, 6, 7, s), behind(-1, 0, 0, s)} {
			wantMay(t, x, false)
			wantPutSnap(t, x, "", api.ErrArg)
		}
	}
	for _, w := range wrongs() {
		s := turned(busy(), w.turn)
		wantNoSnap(t, snapText(behind(0, 0, 0, s)), w.code)
		wantNoSnap(t, snapText(behind(5, 6, api.High, s))+"\x00", w.code)
		wantNoSnap(t, snapText(behind(5, api.High+1, 7, s)), w.code)
		wantNoSnap(t, snapText(behind(5, 6, -1, s)), api.ErrForm)
	}
}

func TestGetSnapFromNowhere(t *testing.T) {
	for _, x := range []api.Snap{{}, behind(3, 1, 2, plain())} {
		b := snapText(x)
		for _, at := range append(row{len(b) - 1, len(b), len(b) + 1, -24, -51}, far...) {
			wantGetSnap(t, b, at, api.Snap{}, 0, api.ErrShort)
			wantGetSnap(t, "", at, api.Snap{}, 0, api.ErrShort)
		}
	}
	wantGetSnap(t, "", 0, api.Snap{}, 0, api.ErrShort)
	if x, next, code := snap.GetSnap(nil, 0); !sameSnap(x, api.Snap{}) || next != 0 || code != api.ErrShort {
		t.Errorf("GetSnap of no bytes is %+v, %d, %d", x, next, code)
	}
}

// Proper prefixes of the three numbers, and of the state behind them.
func TestGetSnapOfPrefixes(t *testing.T) {
	for _, s := range rightStates() {
		whole := []byte("\xff" + snapText(behind(1, api.High, 3, s)) + "spare")
		for n := range 24 + len(text(s)) {
			if x, next, code := snap.GetSnap(whole[:1+n], 1); !sameSnap(x, api.Snap{}) || next != 0 || code != api.ErrShort {
				t.Fatalf("GetSnap of %d bytes ahead of %+v is %+v, %d, %d", n, s, x, next, code)
			}
		}
	}
}

// R2: the errors of the three numbers come in order, then those of the state;
// that the snapshot is not well-formed comes last.
func TestGetSnapTellsTheFirstError(t *testing.T) {
	never := "\xff\xff\xff\xff\xff\xff\xff\xff"
	late := strings.Repeat("\x00", 24) + "\x00\x01\x0d" // a state whose lock has a name that is too long
	for _, c := range []struct {
		b    string
		want api.Errno
	}{
		{never[:7], api.ErrShort},                        // seven bytes of what could only be too great
		{great, api.ErrForm},                             // a Done of 2^62, no View
		{never + never[:3], api.ErrForm},                 // the same, a part of one
		{above + one[:7], api.ErrShort},                  // a Done above High, no View
		{above + great, api.ErrForm},                     // the same, a View of 2^62
		{most + most + one[:7], api.ErrShort},            // a Done and a View above High, no Slot
		{most + most + great, api.ErrForm},               // the same, a Slot of 2^62
		{above + one + one + one[:7], api.ErrShort},      // a Done above High, no Time
		{above + above + above + great, api.ErrForm},     // all of them above High, a Time of 2^62
		{above + one + one + late, api.ErrLong},          // a Done above High, a name too long
		{one + above + one + late, api.ErrLong},          // a View above High, a name too long
		{one + one + above + late, api.ErrLong},          // a Slot above High, a name too long
		{one + one + great + late, api.ErrForm},          // a Slot of 2^62, a name too long
		{one + never + one + late, api.ErrForm},          // a View far above, a name too long
		{one + one + one + above + late[8:], 3},          // a Time above High, a name too long
		{one + one + above + plainText[:60], 2},          // a Slot above High, a state cut off
		{one + one + above + plainText[:24] + "\x06", 4}, // a Slot above High, six sessions
		{one + one + above + plainText, api.ErrForm},     // a Slot above High
	} {
		wantNoSnap(t, c.b, c.want)
	}
}
