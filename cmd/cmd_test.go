package cmd_test

import (
	"math"
	"strings"
	"testing"

	"padlock/api"
	"padlock/cmd"
)

const (
	twelve   = "ab-0123456yz"
	thirteen = "ab-0123456yz9"
	inNames  = "abcdefghijklmnopqrstuvwxyz0123456789-"
)

// kinds are all kinds of commands, and numbers that are none: some of them end
// in the byte of one.
var kinds = []int{math.MinInt, -255, -6, -1, 0, 1, 2, 3, 4, 5, 6, 7, 8, 255, 256, 257, 259, 1<<32 + 1, math.MaxInt}

// numbers are numbers of sessions and requests, and others at their edges.
var numbers = []int{math.MinInt, -api.High, -2, -1, 0, 1, 2, 255, 256, 1 << 32, api.High - 1, api.High, api.High + 1, 1<<62 - 1, 1 << 62, math.MaxInt}

// names are names, no name, and texts that are none.
var names = []string{"", "a", "-", "0", "z9-", twelve, thirteen, "A", "a b", "a\x00", "\xc3\xa9", strings.Repeat("q", 255), strings.Repeat("q", 256)}

// eachCmd calls f with commands that have each of the kinds, numbers and names.
func eachCmd(f func(c api.Cmd)) {
	for _, kind := range kinds {
		for _, session := range numbers {
			for _, name := range names {
				f(api.Cmd{Kind: kind, Session: session, Name: name})
			}
		}
	}
}

func wantName(t *testing.T, s string, want bool) {
	t.Helper()
	if got := cmd.Name(s); got != want {
		t.Errorf("Name(%q) = %v; want %v", s, got, want)
	}
}

func wantPut(t *testing.T, c api.Cmd, want string, wantCode api.Errno) {
	t.Helper()
	if b, code := cmd.Put(c); string(b) != want || code != wantCode {
		t.Errorf("Put(%+v) = %q, %d; want %q, %d", c, b, code, want, wantCode)
	}
}

func wantGet(t *testing.T, b []byte, at int, want api.Cmd, wantNext int, wantCode api.Errno) {
	t.Helper()
	if c, next, code := cmd.Get(b, at); c != want || next != wantNext || code != wantCode {
		t.Errorf("Get(%q, %d) = %+v, %d, %d; want %+v, %d, %d", b, at, c, next, code, want, wantNext, wantCode)
	}
}

// 4.1: Name

func TestNameOfEachLength(t *testing.T) {
	for size, want := range []bool{false, true, true, true, true, true, true, true, true, true, true, true, true, false, false, false} {
		wantName(t, strings.Repeat("a", size), want)
		wantName(t, strings.Repeat("-", size), want)
	}
	wantName(t, twelve, true)
	wantName(t, thirteen, false)
	for _, size := range []int{255, 256, 257, 268, 1 << 16} {
		wantName(t, strings.Repeat("0", size), false)
	}
}

// Each of all bytes, alone and at each place of the longest name.
func TestNameOfEachByte(t *testing.T) {
	for x := range 256 {
		own := string([]byte{byte(x)})
		want := strings.Contains(inNames, own)
		wantName(t, own, want)
		for at := range len(twelve) {
			wantName(t, twelve[:at]+own+twelve[at+1:], want)
		}
	}
}

func TestNamesThatAreNone(t *testing.T) {
	for _, s := range []string{"A", "aB", "a b", " a", "a ", "a.", "a_b", "a+", "a/b", "a\x00", "\x00", "a\n", "{", "`", ":", "é", "ä", "а", "١", "９", "ａ", "\u2010", "ſ", "\xe1", "\xff"} {
		wantName(t, s, false)
	}
	// Runes are not counted: of "é" each byte is none that a name may have.
	wantName(t, strings.Repeat("é", 6), false)
}

// 4.1: May

// may is what 4.1 says, sentence by sentence.
func may(c api.Cmd) bool {
	if c.Kind < 1 || c.Kind > 6 {
		return false
	}
	session := c.Session == 0
	if c.Kind != 1 {
		session = c.Session >= 1 && c.Session <= 1<<61
	}
	name := c.Name == ""
	if c.Kind >= 3 && c.Kind <= 5 {
		name = len(c.Name) >= 1 && len(c.Name) <= 12 && strings.Trim(c.Name, inNames) == ""
	}
	return session && name
}

func TestMay(t *testing.T) {
	for _, p := range []struct {
		c    api.Cmd
		want bool
	}{
		{api.Cmd{Kind: api.Open}, true},
		{api.Cmd{Kind: api.Open, Session: 1}, false},
		{api.Cmd{Kind: api.Open, Session: -1}, false},
		{api.Cmd{Kind: api.Open, Name: "a"}, false},
		{api.Cmd{Kind: api.Keep}, false},
		{api.Cmd{Kind: api.Keep, Session: 1}, true},
		{api.Cmd{Kind: api.Keep, Session: api.High}, true},
		{api.Cmd{Kind: api.Keep, Session: api.High + 1}, false},
		{api.Cmd{Kind: api.Keep, Session: -1}, false},
		{api.Cmd{Kind: api.Keep, Session: 1, Name: "a"}, false},
		{api.Cmd{Kind: api.Take, Session: 1, Name: "a"}, true},
		{api.Cmd{Kind: api.Take, Session: 0, Name: "a"}, false},
		{api.Cmd{Kind: api.Take, Session: -1, Name: "a"}, false},
		{api.Cmd{Kind: api.Take, Session: 1, Name: ""}, false},
		{api.Cmd{Kind: api.Take, Session: 1, Name: twelve}, true},
		{api.Cmd{Kind: api.Take, Session: 1, Name: thirteen}, false},
		{api.Cmd{Kind: api.Take, Session: 1, Name: "A"}, false},
		{api.Cmd{Kind: api.Try, Session: api.High, Name: "b-1"}, true},
		{api.Cmd{Kind: api.Try, Session: api.High + 1, Name: "b-1"}, false},
		{api.Cmd{Kind: api.Try, Session: 2}, false},
		{api.Cmd{Kind: api.Free, Session: 2, Name: "0"}, true},
		{api.Cmd{Kind: api.Free, Session: 2}, false},
		{api.Cmd{Kind: api.Close, Session: 9}, true},
		{api.Cmd{Kind: api.Close, Session: 9, Name: "a"}, false},
		{api.Cmd{Kind: api.Close}, false},
		{api.Cmd{}, false},
		{api.Cmd{Kind: 7, Session: 1}, false},
		{api.Cmd{Kind: 7, Session: 1, Name: "a"}, false},
		{api.Cmd{Kind: -1, Session: 1}, false},
	} {
		if got := cmd.May(p.c); got != p.want || may(p.c) != p.want {
			t.Errorf("May(%+v) = %v; want %v", p.c, got, p.want)
		}
	}
}

func TestMayOfAnything(t *testing.T) {
	eachCmd(func(c api.Cmd) {
		if got, want := cmd.May(c), may(c); got != want {
			t.Errorf("May(%+v) = %v; want %v", c, got, want)
		}
	})
}

// 4.1: Put

func TestPut(t *testing.T) {
	wantPut(t, api.Cmd{Kind: api.Open}, "\x01\x00\x00\x00\x00\x00\x00\x00\x00\x00", api.OK)
	wantPut(t, api.Cmd{Kind: api.Keep, Session: 258}, "\x02\x00\x00\x00\x00\x00\x00\x01\x02\x00", api.OK)
	wantPut(t, api.Cmd{Kind: api.Take, Session: 5, Name: "a-9"}, "\x03\x00\x00\x00\x00\x00\x00\x00\x05\x03a-9", api.OK)
	wantPut(t, api.Cmd{Kind: api.Try, Session: 1, Name: twelve}, "\x04\x00\x00\x00\x00\x00\x00\x00\x01\x0c"+twelve, api.OK)
	wantPut(t, api.Cmd{Kind: api.Free, Session: 0x0102030405060708, Name: "z"}, "\x05\x01\x02\x03\x04\x05\x06\x07\x08\x01z", api.OK)
	wantPut(t, api.Cmd{Kind: api.Close, Session: api.High}, "\x06\x20\x00\x00\x00\x00\x00\x00\x00\x00", api.OK)
}

func TestPutOfWhatIsNotWellFormed(t *testing.T) {
	for _, c := range []api.Cmd{
		{},
		{Kind: 7, Session: 1},
		{Kind: 257},
		{Kind: api.Open, Session: 1},
		{Kind: api.Open, Name: "a"},
		{Kind: api.Keep},
		{Kind: api.Keep, Session: -1},
		{Kind: api.Keep, Session: api.High + 1},
		{Kind: api.Take, Session: 1},
		{Kind: api.Take, Session: 1, Name: "A"},
		{Kind: api.Free, Session: 1, Name: thirteen},
		{Kind: api.Free, Session: 1, Name: strings.Repeat("q", 256)},
		{Kind: api.Close, Session: 1, Name: "a"},
	} {
		wantPut(t, c, "", api.ErrArg)
	}
}

// 4.1: Get

func TestGet(t *testing.T) {
	b := []byte("!!\x03\x00\x00\x00\x00\x00\x00\x00\x05\x03a-9\x01\x00\x00\x00\x00\x00\x00\x00\x00\x00?")
	wantGet(t, b, 2, api.Cmd{Kind: api.Take, Session: 5, Name: "a-9"}, 15, api.OK)
	wantGet(t, b, 15, api.Cmd{Kind: api.Open}, 25, api.OK)
	wantGet(t, b[:25], 15, api.Cmd{Kind: api.Open}, 25, api.OK)
	wantGet(t, b[:24], 15, api.Cmd{}, 0, api.ErrShort)
	wantGet(t, []byte("\x06\x20\x00\x00\x00\x00\x00\x00\x00\x00"), 0, api.Cmd{Kind: api.Close, Session: api.High}, 10, api.OK)
	wantGet(t, []byte("\x04\x00\x00\x00\x00\x00\x00\x00\x01\x0c"+twelve), 0, api.Cmd{Kind: api.Try, Session: 1, Name: twelve}, 22, api.OK)
}

func TestGetOfWhatIsNotWellFormed(t *testing.T) {
	for _, s := range []string{
		"\x00\x00\x00\x00\x00\x00\x00\x00\x01\x00",   // no kind
		"\x07\x00\x00\x00\x00\x00\x00\x00\x01\x00",   // no kind
		"\xff\x00\x00\x00\x00\x00\x00\x00\x01\x01a",  // no kind
		"\x01\x00\x00\x00\x00\x00\x00\x00\x01\x00",   // Open of a session
		"\x01\x00\x00\x00\x00\x00\x00\x00\x00\x01a",  // Open of a name
		"\x02\x00\x00\x00\x00\x00\x00\x00\x00\x00",   // Keep of no session
		"\x02\x20\x00\x00\x00\x00\x00\x00\x01\x00",   // a session above High
		"\x02\x3f\xff\xff\xff\xff\xff\xff\xff\x00",   // a session above High
		"\x02\x00\x00\x00\x00\x00\x00\x00\x01\x01a",  // Keep of a name
		"\x03\x00\x00\x00\x00\x00\x00\x00\x01\x01A",  // the chapter's example
		"\x03\x00\x00\x00\x00\x00\x00\x00\x01\x00",   // Take of no name
		"\x04\x00\x00\x00\x00\x00\x00\x00\x00\x01a",  // Try of no session
		"\x05\x00\x00\x00\x00\x00\x00\x00\x01\x02a ", // no name
		"\x06\x00\x00\x00\x00\x00\x00\x00\x01\x01a",  // Close of a name
	} {
		wantGet(t, []byte(s), 0, api.Cmd{}, 0, api.ErrForm)
		wantGet(t, []byte("\x03\x00\x00"+s+"\x00"), 3, api.Cmd{}, 0, api.ErrForm)
	}
}

// R2: where several errors apply, that of the first field does, and what is
// not well-formed is told last.
func TestGetTellsTheFirstError(t *testing.T) {
	for _, p := range []struct {
		s    string
		want api.Errno
	}{
		{"\x00", api.ErrShort},                                                  // no kind, no session
		{"\x07\xff\xff\xff\xff\xff\xff\xff", api.ErrShort},                      // no kind, seven bytes of what could only be too great
		{"\x02\x40\x00\x00\x00\x00\x00\x00\x00", api.ErrForm},                   // a session of 2^62, no length
		{"\x02\xff\xff\xff\xff\xff\xff\xff\xff\x0d", api.ErrForm},               // a session too great, a name too long
		{"\x02\x80\x00\x00\x00\x00\x00\x00\x01\x0c", api.ErrForm},               // a session too great, a name cut off
		{"\x02\x20\x00\x00\x00\x00\x00\x00\x01", api.ErrShort},                  // a session above High, no length
		{"\x02\x20\x00\x00\x00\x00\x00\x00\x01\x0d", api.ErrLong},               // a session above High, a name too long
		{"\x02\x20\x00\x00\x00\x00\x00\x00\x01\x01", api.ErrShort},              // a session above High, a name cut off
		{"\x00\x00\x00\x00\x00\x00\x00\x00\x01\x0d", api.ErrLong},               // no kind, a name too long and cut off
		{"\x07\x00\x00\x00\x00\x00\x00\x00\x01\xff" + thirteen, api.ErrLong},    // no kind, a name too long and cut off
		{"\x01\x00\x00\x00\x00\x00\x00\x00\x01\x0d" + thirteen, api.ErrLong},    // Open of a session, a name too long
		{"\x03\x00\x00\x00\x00\x00\x00\x00\x01\x0d" + thirteen, api.ErrLong},    // a name too long
		{"\x03\x00\x00\x00\x00\x00\x00\x00\x01\x0c" + twelve[1:], api.ErrShort}, // a name cut off
		{"\x01\x00\x00\x00\x00\x00\x00\x00\x01\x0cA", api.ErrShort},             // Open of a session and a name, cut off
	} {
		wantGet(t, []byte(p.s), 0, api.Cmd{}, 0, p.want)
		wantGet(t, []byte("\x01"+p.s), 1, api.Cmd{}, 0, p.want)
	}
}
