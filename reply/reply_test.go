package reply_test

import (
	"math"
	"slices"
	"strings"
	"testing"

	"padlock/api"
	"padlock/reply"
)

const (
	zeros    = "\x00\x00\x00\x00\x00\x00\x00" // a number, but for its last byte
	one      = zeros + "\x01"
	high     = "\x20\x00\x00\x00\x00\x00\x00\x00"
	aHigh    = "\x20\x00\x00\x00\x00\x00\x00\x01" // above High
	great    = "\x40\x00\x00\x00\x00\x00\x00\x00" // no number at all
	twelve   = "ab-0123456yz"
	thirteen = "ab-0123456yz9"
	inNames  = "abcdefghijklmnopqrstuvwxyz0123456789-"
)

// codes are all codes, and numbers that are none: some of them end in the byte
// of one.
var codes = []api.Errno{math.MinInt, -256, -12, -1, 0, 1, 2, 3, 4, 5, 6, 7, 8, 9, 10, 11, 12, 13, 14, 127, 128, 255, 256, 262, 268, 1 << 32, math.MaxInt}

// numbers are numbers of sessions and requests, and tokens, and others at
// their edges.
var numbers = []int{math.MinInt, -api.High, -2, -1, 0, 1, 2, 255, 256, 1 << 32, api.High - 1, api.High, api.High + 1, 1<<62 - 1, 1 << 62, math.MaxInt}

// aheads are how many may wait ahead, and others: some of them end in the byte
// of one.
var aheads = []int{math.MinInt, -255, -3, -1, 0, 1, 2, 3, 4, 5, 255, 256, 257, 259, 1 << 32, math.MaxInt}

// grants returns a list with these names, whose tokens count from 1 on.
func grants(names ...string) (held []api.Grant) {
	for i, name := range names {
		held = append(held, api.Grant{Name: name, Token: i + 1})
	}
	return held
}

// rising returns a list of so many names, up to 37 * 37, in ascending order.
func rising(count int) []api.Grant {
	letters := []byte(inNames)
	slices.Sort(letters)
	var names []string
	for i := range count {
		names = append(names, string([]byte{letters[i/37], letters[i%37]}))
	}
	return grants(names...)
}

// of returns a list of one element.
func of(name string, token int) []api.Grant {
	return []api.Grant{{Name: name, Token: token}}
}

// rightHelds returns lists that may be held.
func rightHelds() [][]api.Grant {
	return [][]api.Grant{
		nil,
		{},
		of("a", 1),
		of("-", api.High),
		of(twelve, 258),
		{{Name: "a", Token: 7}, {Name: "b", Token: 7}},
		{{Name: "-", Token: api.High}, {Name: "0", Token: 1}, {Name: "a", Token: 2}},
		grants("a", "a-", "a0", "aa"), // a name comes ahead of those that begin with it
		grants("b", "c", "d", twelve)[:3],
		grants("0", "0123456789ab", "z", "zzzzzzzzzzzz"),
		{{Name: "a", Token: 9}, {Name: "b", Token: 8}, {Name: "c", Token: 7}, {Name: "d", Token: 6}},
	}
}

// wrongHelds returns lists that may not be held.
func wrongHelds() [][]api.Grant {
	all := [][]api.Grant{
		grants("a", "b", "c", "d", "e"),
		grants("a", "b", "c", "d", "e", "f", "g", "h"),
		rising(256), // the number of its elements ends in the byte 0
		rising(257),
		make([]api.Grant, 5),
		{{}},
		of("", 1), of("A", 1), of("a b", 1), of("a\x00", 1), of("\xc3\xa9", 1), of(thirteen, 1), of(strings.Repeat("q", 256), 1),
		of("a", 0), of("a", -1), of("a", math.MinInt), of("a", api.High+1), of("a", 1<<62), of("a", math.MaxInt),
		grants("a", "a"), grants("b", "a"), grants("aa", "a"), grants("a", "-"),
		grants("a", "b", "b"), grants("a", "c", "b"), grants("b", "c", "a"),
		grants("a", "b", "c", "c"), grants("a", "b", "d", "c"), grants("b", "c", "d", "a"),
	}
	for at := range 4 { // one element that is wrong, at each place
		for _, g := range []api.Grant{{}, {Name: "a"}, {Name: "A", Token: 1}, {Name: thirteen, Token: 1}, {Name: "b", Token: api.High + 1}, {Name: "b", Token: -1}} {
			held := grants("a", "b", "c", "d")
			held[at] = g
			all = append(all, held)
		}
	}
	return all
}

// eachReply calls f with replies that have each of the codes, numbers, aheads
// and lists.
func eachReply(f func(r api.Reply)) {
	for _, held := range append(rightHelds(), wrongHelds()...) {
		for _, code := range codes {
			for _, session := range numbers {
				for _, ahead := range aheads {
					f(api.Reply{Code: code, Session: session, Ahead: ahead, Held: held})
				}
			}
		}
	}
}

// same reports whether a and b are equal; no list, and a list of nothing, are.
func same(a, b api.Reply) bool {
	return a.Code == b.Code && a.Session == b.Session && a.Ahead == b.Ahead && slices.Equal(a.Held, b.Held)
}

func wantPut(t *testing.T, r api.Reply, want string, wantCode api.Errno) {
	t.Helper()
	if b, code := reply.Put(r); string(b) != want || code != wantCode {
		t.Errorf("Put(%+v) = %q, %d; want %q, %d", r, b, code, want, wantCode)
	}
}

func wantGet(t *testing.T, b []byte, at int, want api.Reply, wantNext int, wantCode api.Errno) {
	t.Helper()
	if r, next, code := reply.Get(b, at); !same(r, want) || next != wantNext || code != wantCode {
		t.Errorf("Get(%q, %d) = %+v, %d, %d; want %+v, %d, %d", b, at, r, next, code, want, wantNext, wantCode)
	}
}

// 5.1: May

// isName is what 4.1 says of a name.
func isName(s string) bool {
	return len(s) >= 1 && len(s) <= 12 && strings.Trim(s, inNames) == ""
}

// may is what 5.1 says, sentence by sentence.
func may(r api.Reply) bool {
	fits := r.Code >= 0 && r.Code <= 12 && r.Session >= 0 && r.Session <= 1<<61 && r.Ahead >= 0 && r.Ahead <= 3
	fits = fits && len(r.Held) <= 4
	last := ""
	for _, g := range r.Held {
		fits = fits && isName(g.Name) && strings.Compare(g.Name, last) > 0 && g.Token >= 1 && g.Token <= 1<<61
		last = g.Name
	}
	if r.Session == 0 {
		fits = fits && len(r.Held) == 0
	}
	return fits
}

func wantMay(t *testing.T, r api.Reply, want bool) {
	t.Helper()
	if got := reply.May(r); got != want || may(r) != want {
		t.Errorf("May(%+v) = %v; want %v", r, got, want)
	}
}

func TestMayOfEachCode(t *testing.T) {
	for code := api.Errno(-20); code < 300; code++ {
		wantMay(t, api.Reply{Code: code}, code >= api.OK && code <= api.ErrHalt)
		wantMay(t, api.Reply{Code: code, Session: 1, Held: grants("a")}, code >= api.OK && code <= api.ErrHalt)
	}
	wantMay(t, api.Reply{Code: math.MinInt}, false)
	wantMay(t, api.Reply{Code: 1 << 32}, false)
	wantMay(t, api.Reply{Code: math.MaxInt}, false)
}

func TestMayOfEachSession(t *testing.T) {
	for _, p := range []struct {
		session     int
		none, holds bool // with a Held of none, and with one element
	}{
		{math.MinInt, false, false}, {-1, false, false}, {0, true, false}, {1, true, true},
		{api.High, true, true}, {api.High + 1, false, false}, {1 << 62, false, false}, {math.MaxInt, false, false},
	} {
		wantMay(t, api.Reply{Session: p.session}, p.none)
		wantMay(t, api.Reply{Session: p.session, Held: []api.Grant{}}, p.none)
		wantMay(t, api.Reply{Session: p.session, Held: grants("a")}, p.holds)
		wantMay(t, api.Reply{Session: p.session, Held: grants("a", "b", "c", "d")}, p.holds)
	}
}

func TestMayOfEachAhead(t *testing.T) {
	for ahead := -20; ahead < 300; ahead++ {
		wantMay(t, api.Reply{Ahead: ahead}, ahead >= 0 && ahead <= 3)
	}
	wantMay(t, api.Reply{Ahead: math.MinInt}, false)
	wantMay(t, api.Reply{Ahead: 1 << 32}, false)
	wantMay(t, api.Reply{Ahead: math.MaxInt}, false)
}

func TestMayOfEachHeld(t *testing.T) {
	for _, held := range rightHelds() {
		wantMay(t, api.Reply{Session: 1, Held: held}, true)
		wantMay(t, api.Reply{Code: api.ErrHalt, Session: api.High, Ahead: 3, Held: held}, true)
		wantMay(t, api.Reply{Held: held}, len(held) == 0)
	}
	for _, held := range wrongHelds() {
		wantMay(t, api.Reply{Session: 1, Held: held}, false)
		wantMay(t, api.Reply{Held: held}, false)
	}
}

func TestMayOfEachName(t *testing.T) {
	for x := range 256 {
		own := string([]byte{byte(x)})
		want := strings.Contains(inNames, own)
		wantMay(t, api.Reply{Session: 1, Held: of(own, 1)}, want)
		wantMay(t, api.Reply{Session: 1, Held: of("q"+own, 1)}, want)
	}
	for size := range 20 {
		wantMay(t, api.Reply{Session: 1, Held: of(strings.Repeat("q", size), 1)}, size >= 1 && size <= 12)
	}
}

func TestMayOfAnything(t *testing.T) {
	eachReply(func(r api.Reply) {
		if got, want := reply.May(r), may(r); got != want {
			t.Fatalf("May(%+v) = %v; want %v", r, got, want)
		}
	})
}

// 5.1: Put

func TestPut(t *testing.T) {
	wantPut(t, api.Reply{}, strings.Repeat("\x00", 11), api.OK)
	wantPut(t, api.Reply{Held: []api.Grant{}}, strings.Repeat("\x00", 11), api.OK)
	wantPut(t, api.Reply{Code: api.ErrHalt, Session: api.High, Ahead: 3}, "\x0c"+high+"\x03\x00", api.OK)
	wantPut(t, api.Reply{Code: api.ErrSession}, "\x09"+zeros+"\x00\x00\x00", api.OK)
	wantPut(t, api.Reply{Session: 0x0102030405060708, Ahead: 1}, "\x00\x01\x02\x03\x04\x05\x06\x07\x08\x01\x00", api.OK)
	wantPut(t, api.Reply{Code: api.ErrWait, Session: 258, Ahead: 2, Held: of("a-9", 3)},
		"\x0a\x00\x00\x00\x00\x00\x00\x01\x02\x02\x01\x03a-9"+zeros+"\x03", api.OK)
	wantPut(t, api.Reply{Session: 1, Held: []api.Grant{{Name: "0", Token: api.High}, {Name: "a", Token: 258}, {Name: twelve, Token: 1}, {Name: "b", Token: 7}}},
		"\x00"+one+"\x00\x04\x010"+high+"\x01a\x00\x00\x00\x00\x00\x00\x01\x02\x0c"+twelve+one+"\x01b"+zeros+"\x07", api.OK)
}

func TestPutOfWhatIsNotWellFormed(t *testing.T) {
	for _, r := range []api.Reply{
		{Code: -1}, {Code: 13}, {Code: 256},
		{Session: -1}, {Session: api.High + 1}, {Session: 1 << 62}, {Session: math.MinInt},
		{Ahead: -1}, {Ahead: 4}, {Ahead: 256},
		{Held: grants("a")},
		{Held: grants("a", "b", "c", "d")},
	} {
		wantPut(t, r, "", api.ErrArg)
	}
	for _, held := range wrongHelds() {
		wantPut(t, api.Reply{Session: 1, Held: held}, "", api.ErrArg)
	}
}

// 5.1: Get

func TestGet(t *testing.T) {
	first := "\x0a\x00\x00\x00\x00\x00\x00\x01\x02\x02\x01\x03a-9" + zeros + "\x03"
	b := []byte("!!" + first + strings.Repeat("\x00", 11) + "?")
	r := api.Reply{Code: api.ErrWait, Session: 258, Ahead: 2, Held: of("a-9", 3)}
	wantGet(t, b, 2, r, 25, api.OK)
	wantGet(t, b, 25, api.Reply{}, 36, api.OK)
	wantGet(t, b[:36], 25, api.Reply{}, 36, api.OK)
	wantGet(t, b[:35], 25, api.Reply{}, 0, api.ErrShort)
	wantGet(t, []byte("\x0c"+high+"\x03\x00"), 0, api.Reply{Code: api.ErrHalt, Session: api.High, Ahead: 3}, 11, api.OK)
	wantGet(t, []byte("\x00"+one+"\x00\x02\x0c"+twelve+one+"\x01b"+high), 0,
		api.Reply{Session: 1, Held: []api.Grant{{Name: twelve, Token: 1}, {Name: "b", Token: api.High}}}, 42, api.OK)
}

// A list of nothing is read as none.
func TestGetOfNoElements(t *testing.T) {
	if r, _, code := reply.Get(make([]byte, 11), 0); len(r.Held) != 0 || code != api.OK {
		t.Errorf("the zero Reply is read with %d elements, %d", len(r.Held), code)
	}
}

func TestGetOfWhatIsNotWellFormed(t *testing.T) {
	for _, s := range []string{
		"\x0d" + zeros + "\x00\x00\x00",                                        // no code
		"\xff" + zeros + "\x00\x00\x00",                                        // no code
		"\x00" + aHigh + "\x00\x00",                                            // a session above High
		"\x00\x3f\xff\xff\xff\xff\xff\xff\xff\x00\x00",                         // a session above High
		"\x00" + zeros + "\x00\x04\x00",                                        // the chapter's example
		"\x00" + zeros + "\x00\xff\x00",                                        // an Ahead too great
		"\x00" + zeros + "\x00\x00\x01\x01a" + one,                             // something held by no session
		"\x00" + one + "\x00\x01\x00" + one,                                    // no name
		"\x00" + one + "\x00\x01\x01A" + one,                                   // no name
		"\x00" + one + "\x00\x01\x0c" + twelve[1:] + " " + one,                 // no name
		"\x00" + one + "\x00\x01\x01a" + zeros + "\x00",                        // the token 0
		"\x00" + one + "\x00\x01\x01a" + aHigh,                                 // a token above High
		"\x00" + one + "\x00\x01\x01a\x3f\xff\xff\xff\xff\xff\xff\xff",         // a token above High
		"\x00" + one + "\x00\x02\x01a" + one + "\x01a" + one,                   // the same name
		"\x00" + one + "\x00\x02\x01b" + one + "\x01a" + one,                   // names that fall
		"\x00" + one + "\x00\x03\x01a" + one + "\x01c" + one + "\x01b" + one,   // names that fall
		"\x00" + one + "\x00\x02\x02aa" + one + "\x01a" + one,                  // names that fall
		"\x00" + one + "\x00\x02\x01a" + one + "\x01b" + zeros + "\x00" + "\n", // the token 0
	} {
		wantGet(t, []byte(s), 0, api.Reply{}, 0, api.ErrForm)
		wantGet(t, []byte("\x03\x00\x00"+s+"\x00"), 3, api.Reply{}, 0, api.ErrForm)
	}
}

// Each number of elements, with as many elements behind it, with none, and with
// a first one that is too long, which is not read if the number is too great.
func TestGetOfEachNumberOfElements(t *testing.T) {
	for count := range 256 {
		head := "\x00" + one + "\x00" + string([]byte{byte(count)})
		held := rising(count)
		elements := ""
		for _, g := range held {
			elements += "\x02" + g.Name + zeros + string([]byte{byte(g.Token)})
		}
		whole, cut, long := []byte(head+elements), []byte(head), []byte(head+"\x0d")
		switch {
		case count == 0:
			wantGet(t, whole, 0, api.Reply{Session: 1}, 11, api.OK)
			wantGet(t, long, 0, api.Reply{Session: 1}, 11, api.OK)
		case count <= 4:
			wantGet(t, whole, 0, api.Reply{Session: 1, Held: held}, len(whole), api.OK)
			wantGet(t, cut, 0, api.Reply{}, 0, api.ErrShort)
			wantGet(t, long, 0, api.Reply{}, 0, api.ErrLong)
		default:
			wantGet(t, whole, 0, api.Reply{}, 0, api.ErrForm)
			wantGet(t, cut, 0, api.Reply{}, 0, api.ErrForm)
			wantGet(t, long, 0, api.Reply{}, 0, api.ErrForm)
		}
	}
}

// R2: where several errors apply, that of the first field does, a number of
// elements that is too great is told ahead of all that follows it, and what is
// not well-formed is told last.
func TestGetTellsTheFirstError(t *testing.T) {
	for _, p := range []struct {
		s    string
		want api.Errno
	}{
		{"\x0d", api.ErrShort},                                                               // no code, no session
		{"\x0d\xff\xff\xff\xff\xff\xff\xff", api.ErrShort},                                   // no code, seven bytes of what could only be too great
		{"\x0d" + great, api.ErrForm},                                                        // a session of 2^62, no Ahead
		{"\x00\xff\xff\xff\xff\xff\xff\xff\xff\x00\x01\x0d", api.ErrForm},                    // a session too great, a name too long
		{"\x0d" + aHigh, api.ErrShort},                                                       // no code, a session above High, no Ahead
		{"\x0d" + aHigh + "\x04", api.ErrShort},                                              // no code, a session above High, an Ahead too great, no number
		{"\x0d" + aHigh + "\x04\x04", api.ErrShort},                                          // the same, and no element
		{"\x00" + one + "\x00\x05", api.ErrForm},                                             // five elements that are not there
		{"\x00" + one + "\x00\x05\x0d", api.ErrForm},                                         // five elements, a name too long
		{"\x0d" + aHigh + "\x04\x01\x0d", api.ErrLong},                                       // what is not well-formed, a name too long and cut off
		{"\x00" + zeros + "\x00\x00\x01\x0d" + thirteen + one, api.ErrLong},                  // something held by no session, a name too long
		{"\x00" + one + "\x00\x01\x0c" + twelve[1:], api.ErrShort},                           // a name cut off
		{"\x00" + one + "\x00\x01\x01A", api.ErrShort},                                       // no name, no token
		{"\x00" + one + "\x00\x01\x00" + great, api.ErrForm},                                 // no name, a token too great
		{"\x00" + one + "\x00\x02\x01a" + great, api.ErrForm},                                // a token too great, no second element
		{"\x00" + one + "\x00\x02\x01a" + great + "\x0d", api.ErrForm},                       // a token too great, a second name too long
		{"\x00" + one + "\x00\x02\x01a" + zeros + "\x00", api.ErrShort},                      // the token 0, no second element
		{"\x00" + one + "\x00\x02\x01a" + aHigh + "\x0d", api.ErrLong},                       // a token above High, a second name too long
		{"\x00" + one + "\x00\x02\x01b" + one + "\x01a" + zeros, api.ErrShort},               // names that fall, a token cut off
		{"\x00" + one + "\x00\x04\x01a" + one + "\x01a" + one + "\x01a", api.ErrShort},       // the same name, a token cut off
		{"\x00" + one + "\x00\x03\x01a" + one + "\x0d" + "\x01b" + great, api.ErrLong},       // a second name too long, a token too great
		{"\x00" + one + "\x00\x04\x01a" + one + "\x01b" + one + "\xff", api.ErrLong},         // a third name too long
		{"\x00" + one + "\x04\x04\x01a" + one + "\x01b" + one + "\x01c" + one, api.ErrShort}, // an Ahead too great, no fourth element
	} {
		wantGet(t, []byte(p.s), 0, api.Reply{}, 0, p.want)
		wantGet(t, []byte("\x01"+p.s), 1, api.Reply{}, 0, p.want)
	}
}

// 5.2: Token

func wantToken(t *testing.T, held []api.Grant, name string, want int) {
	t.Helper()
	if got := reply.Token(api.Reply{Session: 1, Held: held}, name); got != want {
		t.Errorf("Token of %q in %+v = %d; want %d", name, held, got, want)
	}
}

func TestToken(t *testing.T) {
	held := []api.Grant{{Name: "a", Token: 4}, {Name: "b", Token: 2}, {Name: twelve, Token: api.High}, {Name: "c", Token: 1}}
	for _, g := range held {
		wantToken(t, held, g.Name, g.Token)
	}
	for _, name := range []string{"", "A", "d", "aa", "a-", "a\x00", " a", twelve[:11], thirteen} {
		wantToken(t, held, name, 0)
		wantToken(t, nil, name, 0)
		wantToken(t, []api.Grant{}, name, 0)
	}
	if got := reply.Token(api.Reply{}, "a"); got != 0 {
		t.Errorf("Token of the zero Reply is %d", got)
	}
}

// A reply that is not well-formed has tokens too, the first of a name.
func TestTokenOfWhatIsNotWellFormed(t *testing.T) {
	held := []api.Grant{{Name: "b", Token: 4}, {Name: "a", Token: 2}, {Name: "b", Token: 7}, {Name: "", Token: -5}, {Name: "A", Token: math.MaxInt}, {Name: "z"}, {Name: "z", Token: 3}}
	wantToken(t, held, "b", 4)
	wantToken(t, held, "a", 2)
	wantToken(t, held, "", -5)
	wantToken(t, held, "A", math.MaxInt)
	wantToken(t, held, "z", 0)
	wantToken(t, held, "c", 0)
	if got := reply.Token(api.Reply{Code: -1, Session: 0, Ahead: 9, Held: held}, "b"); got != 4 {
		t.Errorf("Token = %d; want 4", got)
	}
}
