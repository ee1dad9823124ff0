package snap

import (
	"errors"
	"testing"

	"padlock/api"
)

// fails runs a reading, and tells what it panicked with (nil: it did not).
func fails(read func()) (cause any) {
	defer func() { cause = recover() }()
	read()
	return nil
}

// A reading that fails panics within the package.
func TestReadingsPanic(t *testing.T) {
	great := []byte{64, 0, 0, 0, 0, 0, 0, 0}
	at := func(b ...byte) *reader { return &reader{b, 0} }
	state := make([]byte, 27)
	notRight := append([]byte{0x20}, state[:26]...)
	notRight[7] = 1
	snap := make([]byte, 51)
	notWell := append(notRight[:8:8], snap[:43]...)
	for _, c := range []struct {
		name string
		read func()
		want any
	}{
		{"number", func() { at(state...).getNum() }, nil},
		{"number, short", func() { at(state[:7]...).getNum() }, failure{api.ErrShort}},
		{"number, form", func() { at(great...).getNum() }, failure{api.ErrForm}},
		{"byte", func() { at(255).getByte() }, nil},
		{"byte, short", func() { at().getByte() }, failure{api.ErrShort}},
		{"name", func() { at(1, '?').getName() }, nil},
		{"name, short", func() { at(12).getName() }, failure{api.ErrShort}},
		{"name, long", func() { at(13).getName() }, failure{api.ErrLong}},
		{"count", func() { at(3).getCount(3) }, nil},
		{"count, short", func() { at().getCount(3) }, failure{api.ErrShort}},
		{"count, form", func() { at(4).getCount(3) }, failure{api.ErrForm}},
		{"memo, short", func() { at(state[:8]...).getMemo() }, failure{api.ErrShort}},
		{"memo, form", func() { at(state...).getMemo() }, failure{api.ErrForm}},
		{"state", func() { readState(state, 0) }, nil},
		{"state, short", func() { readState(state, 1) }, failure{api.ErrShort}},
		{"state, form", func() { readState(notRight, 0) }, failure{api.ErrForm}},
		{"snapshot", func() { readSnap(snap, 0) }, nil},
		{"snapshot, short", func() { readSnap(snap, -1) }, failure{api.ErrShort}},
		{"snapshot, form", func() { readSnap(notWell, 0) }, failure{api.ErrForm}},
	} {
		if got := fails(c.read); got != c.want {
			t.Errorf("%s: panics with %v; want %v", c.name, got, c.want)
		}
	}
}

// R1: a panic that no reading meant still ends as a code.
func TestCodeOf(t *testing.T) {
	if got := codeOf(failure{api.ErrLong}); got != api.ErrLong {
		t.Errorf("a failure of ErrLong ends as %d", got)
	}
	for _, cause := range []any{errors.New("another"), "text", api.ErrShort} {
		if got := codeOf(cause); got != api.ErrForm {
			t.Errorf("%v ends as %d; want ErrForm", cause, got)
		}
	}
}
