package octet

import (
	"errors"
	"testing"

	"padlock/api"
)

// fails runs a reading, and tells what it panicked with (nil: it did not).
func fails(read func()) (cause any) {
	defer func() { cause = recover() }()
	read()
	return nil
}

// A reading that fails panics within the package.
func TestReadingsPanic(t *testing.T) {
	great := []byte{64, 0, 0, 0, 0, 0, 0, 0}
	for _, c := range []struct {
		name string
		read func()
		want any
	}{
		{"number", func() { readNum(make([]byte, 8), 0) }, nil},
		{"number, short", func() { readNum(great[:7], 0) }, failure{api.ErrShort}},
		{"number, form", func() { readNum(great, 0) }, failure{api.ErrForm}},
		{"byte", func() { readByte(great, 7) }, nil},
		{"byte, short", func() { readByte(great, 8) }, failure{api.ErrShort}},
		{"text", func() { readText([]byte{1, 'a'}, 0, 1) }, nil},
		{"text, no length", func() { readText(nil, 0, 1) }, failure{api.ErrShort}},
		{"text, long", func() { readText([]byte{2}, 0, 1) }, failure{api.ErrLong}},
		{"text, short", func() { readText([]byte{1}, 0, 1) }, failure{api.ErrShort}},
		{"end", func() { readEnd(great, 8) }, nil},
		{"end, short", func() { readEnd(great, 9) }, failure{api.ErrShort}},
		{"end, long", func() { readEnd(great, 7) }, failure{api.ErrLong}},
	} {
		if got := fails(c.read); got != c.want {
			t.Errorf("%s: panics with %v; want %v", c.name, got, c.want)
		}
	}
}

// R1: a panic that no reading meant still ends as a code.
func TestCodeOf(t *testing.T) {
	if got := codeOf(failure{api.ErrLong}); got != api.ErrLong {
		t.Errorf("a failure of ErrLong ends as %d", got)
	}
	for _, cause := range []any{errors.New("another"), "text", api.ErrShort} {
		if got := codeOf(cause); got != api.ErrForm {
			t.Errorf("%v ends as %d; want ErrForm", cause, got)
		}
	}
}
