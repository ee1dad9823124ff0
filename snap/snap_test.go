package snap_test

import (
	"encoding/binary"
	"math"
	"reflect"
	"strings"
	"testing"

	"padlock/api"
	"padlock/auto"
	"padlock/snap"
)

type (
	state = api.State
	row   = []int
)

const (
	zeros  = "\x00\x00\x00\x00\x00\x00\x00"
	zero   = zeros + "\x00"
	one    = zeros + "\x01"
	high   = "\x20\x00\x00\x00\x00\x00\x00\x00"
	above  = "\x20\x00\x00\x00\x00\x00\x00\x01" // High and 1
	most   = "\x3f\xff\xff\xff\xff\xff\xff\xff" // the greatest number that is read
	great  = "\x40\x00\x00\x00\x00\x00\x00\x00"
	twelve = "twelve-bytes"
)

// far are indices that no slice of a few bytes has.
var far = []int{-1, -2, -8, -27, math.MinInt, math.MinInt + 1, math.MinInt + 8, 1 << 20, math.MaxInt - 27, math.MaxInt - 8, math.MaxInt - 7, math.MaxInt - 1, math.MaxInt}

// opened, held and said make what the tables of a state have.

func opened(client, num, renewed int) api.Session {
	return api.Session{Client: client, Num: num, Renewed: renewed}
}

func held(name string, holder, token int, line ...int) api.Lock {
	return api.Lock{Name: name, Holder: holder, Token: token, Line: line}
}

func said(client, seq int, code api.Errno, num, ahead int, grants ...api.Grant) api.Memo {
	return api.Memo{Client: client, Seq: seq, Reply: api.Reply{Code: code, Session: num, Ahead: ahead, Held: grants}}
}

func grant(name string, token int) api.Grant {
	return api.Grant{Name: name, Token: token}
}

// plain returns a state with a lock that has a line, one that has none, and a
// memo of each kind; plainText is that state as bytes.
func plain() state {
	return state{
		Time: 258, Num: 7, Token: 9,
		Sessions: []api.Session{opened(0, 7, 255), opened(3, 5, 258), opened(6, 1, 0)},
		Locks:    []api.Lock{held("a", 3, 9, 6, 0), held("b-2", 0, 4)},
		Memos:    []api.Memo{said(2, 1, api.ErrSession, 0, 0), said(3, 300, api.OK, 5, 0, grant("a", 9)), said(6, 2, api.ErrWait, 1, 0)},
	}
}

const plainText = "\x00\x00\x00\x00\x00\x00\x01\x02" + zeros + "\x07" + zeros + "\x09" +
	"\x03" +
	"\x00" + zeros + "\x07" + zeros + "\xff" +
	"\x03" + zeros + "\x05" + "\x00\x00\x00\x00\x00\x00\x01\x02" +
	"\x06" + one + zero +
	"\x02" +
	"\x01a\x03" + zeros + "\x09" + "\x02\x06\x00" +
	"\x03b-2\x00" + zeros + "\x04" + "\x00" +
	"\x03" +
	"\x02" + one + "\x09" + zero + "\x00\x00" +
	"\x03\x00\x00\x00\x00\x00\x00\x01\x2c" + "\x00" + zeros + "\x05" + "\x00\x01" + "\x01a" + zeros + "\x09" +
	"\x06" + zeros + "\x02" + "\x0a" + one + "\x00\x00"

// busy returns a state with room for one session and one lock, in which lines
// of three lengths wait, and memos tell of no locks, of one, and of two.
func busy() state {
	return state{
		Time: 100, Num: 20, Token: 30,
		Sessions: []api.Session{opened(0, 11, 60), opened(2, 20, 95), opened(3, 4, 100), opened(5, 13, 90)},
		Locks:    []api.Lock{held("b", 2, 30, 5, 0, 3), held("d", 0, 7, 2), held("f", 2, 12)},
		Memos: []api.Memo{
			said(0, 5, api.ErrWait, 11, 1, grant("d", 7)),
			said(2, 9, api.OK, 20, 0, grant("b", 30), grant("f", 12)),
			said(3, 1, api.OK, 4, 0),
			said(6, 40, api.ErrSession, 0, 0),
		},
	}
}

// full returns a state in which there is as much of all as there may be, and
// all numbers are as great as they may be.
func full() state {
	names := []string{"aaaaaaaaaaaa", "b----------9", twelve, "zzzzzzzzzzzz"}
	s := state{Time: api.High, Num: api.High, Token: api.High}
	for i, client := range []int{0, 2, 3, 6, 7} {
		s.Sessions = append(s.Sessions, opened(client, api.High-i, api.High))
	}
	for i, name := range names {
		s.Locks = append(s.Locks, held(name, 7, api.High-i, 6, 0, 3))
	}
	for client := range 8 {
		m := said(client, api.High, api.ErrHalt, api.High, 3)
		for _, name := range names {
			m.Reply.Held = append(m.Reply.Held, grant(name, api.High))
		}
		s.Memos = append(s.Memos, m)
	}
	return s
}

// rightStates returns states with tables of each length. Each call makes them anew.
func rightStates() []state {
	all := []state{
		{},
		{Sessions: []api.Session{}, Locks: []api.Lock{}, Memos: []api.Memo{}},
		{Time: 1},
		{Num: 1},
		{Token: 1},
		{Time: api.High, Num: api.High - 1, Token: api.High - 2},
		{Num: 1, Sessions: []api.Session{opened(4, 1, 0)}},
		{Num: 1, Token: 1, Sessions: []api.Session{opened(4, 1, 0)}, Locks: []api.Lock{held("d", 4, 1)}},
		{Num: 2, Token: 1, Sessions: []api.Session{opened(4, 1, 0), opened(7, 2, 9)}, Locks: []api.Lock{held(twelve, 4, 1, 7)}},
		{Memos: []api.Memo{said(5, 1, api.ErrSession, 0, 0)}},
		{Memos: []api.Memo{said(0, 3, api.OK, 2, 0, grant("-", 1)), said(7, api.High, api.ErrFull, 0, 0)}},
		{Memos: []api.Memo{said(0, 3, api.OK, 2, 0, []api.Grant{}...)}, Num: 1, Token: 5, Sessions: []api.Session{opened(1, 1, 1)}, Locks: []api.Lock{held("q", 1, 5, row{}...)}},
		plain(),
		busy(),
		full(),
	}
	for n := range 5 {
		s := full()
		s.Sessions, s.Locks, s.Memos = s.Sessions[:5-n], nil, s.Memos[:2*n]
		for i := range s.Memos {
			s.Memos[i].Reply.Held = s.Memos[i].Reply.Held[:(i+n)%5]
		}
		all = append(all, s)
		s = full()
		s.Locks = s.Locks[:4-n]
		for i := range s.Locks {
			s.Locks[i].Line = s.Locks[i].Line[:(i+n)%4]
		}
		s.Memos = nil
		all = append(all, s)
	}
	return all
}

// wrong is a change that makes busy a state that is not right, and how reading
// its bytes ends.
type wrong struct {
	turn func(s *state)
	code api.Errno
}

// wrongs returns changes by each way of 10.1.
func wrongs() []wrong {
	all := []wrong{}
	add := func(code api.Errno, turns ...func(s *state)) {
		for _, turn := range turns {
			all = append(all, wrong{turn, code})
		}
	}
	for _, v := range []int{math.MinInt, -1, api.High + 1, 1<<62 - 1, 1 << 62, math.MaxInt} {
		add(api.ErrForm,
			func(s *state) { s.Time = v },
			func(s *state) { s.Num = v },
			func(s *state) { s.Token = v },
			func(s *state) { s.Sessions[2].Num = v },
			func(s *state) { s.Sessions[2].Renewed = v },
			func(s *state) { s.Locks[1].Token = v },
			func(s *state) { s.Memos[0].Seq = v },
			func(s *state) { s.Memos[0].Reply.Session = v },
			func(s *state) { s.Memos[0].Reply.Held[0].Token = v },
		)
	}
	for _, client := range []int{-1, 8, 9, 255} {
		add(api.ErrForm,
			func(s *state) { s.Sessions[0].Client = client },
			func(s *state) { s.Sessions[3].Client = client },
			func(s *state) { s.Locks[2].Holder = client },
			func(s *state) { s.Locks[1].Line[0] = client },
			func(s *state) { s.Memos[0].Client = client },
			func(s *state) { s.Memos[3].Client = client },
		)
	}
	for _, name := range []string{"", "B", "a_", "\x00", "é"} {
		add(api.ErrForm,
			func(s *state) { s.Locks[0].Name = name },
			func(s *state) { s.Memos[0].Reply.Held[0].Name = name },
		)
	}
	for _, name := range []string{"a" + twelve, strings.Repeat("a", 255)} {
		add(api.ErrLong,
			func(s *state) { s.Locks[0].Name = name },
			func(s *state) { s.Memos[0].Reply.Held[0].Name = name },
		)
	}
	add(api.ErrForm, wrongTables()...)
	return all
}

// wrongTables returns changes by which tables are not right in themselves, or
// not together.
func wrongTables() []func(s *state) {
	return []func(s *state){
		func(s *state) { s.Num = 19 },
		func(s *state) { s.Token = 29 },
		func(s *state) { s.Num, s.Token = 0, 0 },
		func(s *state) { s.Sessions[2].Num = 0 },
		func(s *state) { s.Sessions[2].Num = 11 },
		func(s *state) { s.Sessions[2].Num = 21 },
		func(s *state) { s.Sessions[1], s.Sessions[2] = s.Sessions[2], s.Sessions[1] },
		func(s *state) { s.Sessions = append(s.Sessions, opened(5, 14, 90)) },
		func(s *state) { s.Sessions = append(s.Sessions, opened(6, 1, 0), opened(7, 2, 0)) },
		func(s *state) { s.Sessions = nil },
		func(s *state) { s.Sessions = s.Sessions[1:] },
		func(s *state) { s.Sessions = s.Sessions[:3] },
		func(s *state) { s.Locks[0].Name = "d" },
		func(s *state) { s.Locks[0].Name = "e" },
		func(s *state) { s.Locks[1].Token = 0 },
		func(s *state) { s.Locks[1].Token = 12 },
		func(s *state) { s.Locks[1].Token = 31 },
		func(s *state) { s.Locks[1].Line = row{2, 2} },
		func(s *state) { s.Locks[1].Line = row{0} },
		func(s *state) { s.Locks[1].Line = row{5, 3, 2, 1} },
		func(s *state) { s.Locks[1].Line = row{7} },
		func(s *state) { s.Locks[1].Line = row{2, 3, 1} },
		func(s *state) { s.Locks[2].Holder = 6 },
		func(s *state) { s.Locks[1], s.Locks[2] = s.Locks[2], s.Locks[1] },
		func(s *state) { s.Locks = append(s.Locks, held("g", 0, 1), held("h", 0, 2)) },
		func(s *state) { s.Memos[0].Client = 2 },
		func(s *state) { s.Memos[1], s.Memos[2] = s.Memos[2], s.Memos[1] },
		func(s *state) { s.Memos = append(s.Memos, said(6, 41, api.OK, 0, 0)) },
		func(s *state) { s.Memos = append(full().Memos, s.Memos[0]) },
		func(s *state) { s.Memos[0].Seq = 0 },
		func(s *state) { s.Memos[0].Reply.Code = -1 },
		func(s *state) { s.Memos[0].Reply.Code = 13 },
		func(s *state) { s.Memos[0].Reply.Ahead = -1 },
		func(s *state) { s.Memos[0].Reply.Ahead = 4 },
		func(s *state) { s.Memos[0].Reply.Session = 0 },
		func(s *state) { s.Memos[0].Reply.Held[0].Token = 0 },
		func(s *state) { s.Memos[1].Reply.Held[1].Name = "b" },
		func(s *state) {
			s.Memos[1].Reply.Held = full().Memos[0].Reply.Held
			s.Memos[1].Reply.Held[3].Name = "a"
		},
		func(s *state) {
			s.Memos[1].Reply.Held = []api.Grant{grant("a", 1), grant("b", 2), grant("c", 3), grant("d", 4), grant("e", 5)}
		},
	}
}

// otherWrongs returns states that are not right, and whose small numbers would
// be right if only their last bytes counted.
func otherWrongs() []state {
	var all []state
	for _, turn := range []func(s *state){
		func(s *state) { s.Sessions[3].Client += 256 },
		func(s *state) { s.Sessions[0].Client -= 256 },
		func(s *state) { s.Locks[0].Holder += 256 },
		func(s *state) { s.Locks[0].Line[2] += 256 },
		func(s *state) { s.Memos[3].Client += 1 << 32 },
		func(s *state) { s.Memos[0].Reply.Code += 256 },
		func(s *state) { s.Memos[0].Reply.Ahead -= 256 },
		func(s *state) { s.Sessions = make([]api.Session, 256) },
		func(s *state) { s.Locks[1].Line = make(row, 1+256) },
		func(s *state) { s.Memos = append(make([]api.Memo, 256), s.Memos...) },
	} {
		all = append(all, turned(busy(), turn))
	}
	return all
}

// wrongStates returns states that are not right.
func wrongStates() []state {
	all := otherWrongs()
	for _, w := range wrongs() {
		all = append(all, turned(busy(), w.turn))
	}
	return all
}

// turned returns s, which nobody else has, with a change.
func turned(s state, turn func(s *state)) state {
	turn(&s)
	return s
}

// copyOf returns s in memory of its own; lists that are empty are nil.
func copyOf(s state) state {
	s.Sessions = append([]api.Session(nil), s.Sessions...)
	s.Locks = append([]api.Lock(nil), s.Locks...)
	for i, k := range s.Locks {
		s.Locks[i].Line = append(row(nil), k.Line...)
	}
	s.Memos = append([]api.Memo(nil), s.Memos...)
	for i, m := range s.Memos {
		s.Memos[i].Reply.Held = append([]api.Grant(nil), m.Reply.Held...)
	}
	return s
}

func same(a, b state) bool {
	return reflect.DeepEqual(copyOf(a), copyOf(b))
}

// text returns s, right or not, as bytes, as 11.1 says.
func text(s state) string {
	var b []byte
	num := func(v int) { b = binary.BigEndian.AppendUint64(b, uint64(v)) }
	small := func(v int) { b = append(b, byte(v)) }
	name := func(s string) { b = append(append(b, byte(len(s))), s...) }
	num(s.Time)
	num(s.Num)
	num(s.Token)
	small(len(s.Sessions))
	for _, x := range s.Sessions {
		small(x.Client)
		num(x.Num)
		num(x.Renewed)
	}
	small(len(s.Locks))
	for _, k := range s.Locks {
		name(k.Name)
		small(k.Holder)
		num(k.Token)
		small(len(k.Line))
		for _, client := range k.Line {
			small(client)
		}
	}
	small(len(s.Memos))
	for _, m := range s.Memos {
		small(m.Client)
		num(m.Seq)
		small(int(m.Reply.Code))
		num(m.Reply.Session)
		small(m.Reply.Ahead)
		small(len(m.Reply.Held))
		for _, g := range m.Reply.Held {
			name(g.Name)
			num(g.Token)
		}
	}
	return string(b)
}

func wantPut(t *testing.T, s state, want string, wantCode api.Errno) {
	t.Helper()
	if b, code := snap.Put(s); string(b) != want || code != wantCode {
		t.Errorf("Put(%+v) = %q, %d; want %q, %d", s, b, code, want, wantCode)
	}
}

func wantGet(t *testing.T, b string, at int, want state, wantNext int, wantCode api.Errno) {
	t.Helper()
	if s, next, code := snap.Get([]byte(b), at); !same(s, want) || next != wantNext || code != wantCode {
		t.Errorf("Get(%q, %d) = %+v, %d, %d; want %+v, %d, %d", b, at, s, next, code, want, wantNext, wantCode)
	}
}

// wantNone reads a state that there is not: at the start, and further on.
func wantNone(t *testing.T, b string, code api.Errno) {
	t.Helper()
	wantGet(t, b, 0, state{}, 0, code)
	wantGet(t, "\x00\x05"+b, 2, state{}, 0, code)
}

// 11.1: Put

func TestPut(t *testing.T) {
	wantPut(t, state{}, strings.Repeat("\x00", 27), api.OK)
	wantPut(t, state{Sessions: []api.Session{}, Locks: []api.Lock{}, Memos: []api.Memo{}}, strings.Repeat("\x00", 27), api.OK)
	wantPut(t, state{Time: 1, Num: api.High, Token: 256}, one+high+"\x00\x00\x00\x00\x00\x00\x01\x00"+"\x00\x00\x00", api.OK)
	wantPut(t, plain(), plainText, api.OK)
	if text(plain()) != plainText {
		t.Errorf("text of %+v is %q", plain(), text(plain()))
	}
	for _, s := range rightStates() {
		wantPut(t, s, text(s), api.OK)
	}
	if n := len(text(full())); n != 24+1+5*17+1+4*26+1+8*104 {
		t.Errorf("what is full has %d bytes", n)
	}
}

func TestPutOfWhatIsNotRight(t *testing.T) {
	for i, s := range wrongStates() {
		if auto.Right(s) {
			t.Errorf("%d: %+v is right", i, s)
		}
		wantPut(t, s, "", api.ErrArg)
	}
}

// 11.1: Get

func TestGet(t *testing.T) {
	wantGet(t, strings.Repeat("\x00", 27), 0, state{}, 27, api.OK)
	wantGet(t, strings.Repeat("\x00", 30), 3, state{}, 30, api.OK)
	wantGet(t, plainText, 0, plain(), len(plainText), api.OK)
	for _, s := range rightStates() {
		for _, ahead := range []string{"", "\x00", "\xff\xff\xff", strings.Repeat("\x05", 40)} {
			for _, behind := range []string{"", "\x00", "\x01", twelve, strings.Repeat("\xff", 40)} {
				wantGet(t, ahead+text(s)+behind, len(ahead), s, len(ahead)+len(text(s)), api.OK)
			}
		}
	}
}

func TestGetFromNowhere(t *testing.T) {
	for _, s := range []state{{}, plain()} {
		b := text(s)
		for _, at := range append(row{len(b) - 1, len(b), len(b) + 1}, far...) {
			wantGet(t, b, at, state{}, 0, api.ErrShort)
			wantGet(t, "", at, state{}, 0, api.ErrShort)
		}
	}
	wantGet(t, "", 0, state{}, 0, api.ErrShort)
	if s, next, code := snap.Get(nil, 0); !same(s, state{}) || next != 0 || code != api.ErrShort {
		t.Errorf("Get of no bytes is %+v, %d, %d", s, next, code)
	}
}

// Proper prefixes, whatever the slice has behind its end.
func TestGetOfPrefixes(t *testing.T) {
	for _, s := range rightStates() {
		whole := []byte("\xff" + text(s) + "spare")
		for n := range len(text(s)) {
			if got, next, code := snap.Get(whole[:1+n], 1); !same(got, state{}) || next != 0 || code != api.ErrShort {
				t.Fatalf("Get of %d bytes of %+v is %+v, %d, %d", n, s, got, next, code)
			}
		}
	}
}

func TestGetOfWhatIsNotRight(t *testing.T) {
	for i, w := range wrongs() {
		s := turned(busy(), w.turn)
		for _, b := range []string{text(s), text(s) + "\x00", text(s) + twelve} {
			if got, next, code := snap.Get([]byte(b), 0); !same(got, state{}) || next != 0 || code != w.code {
				t.Errorf("%d: Get of %+v is %+v, %d, %d; want code %d", i, s, got, next, code, w.code)
			}
			wantGet(t, "\x01"+b, 1, state{}, 0, w.code)
		}
	}
}

// The parts of a state with one session, one lock and one memo, each ahead of a
// number of elements.
const (
	toSessions = one + one + one
	toLocks    = toSessions + "\x01" + "\x04" + one + zero
	toLine     = toLocks + "\x01" + "\x01a\x04" + one
	toMemos    = toLine + "\x00"
	toHeld     = toMemos + "\x01" + "\x04" + one + "\x00" + one + "\x00"
)

// Numbers of elements at their limits and above them, whatever follows: behind
// one that is too great nothing is read.
func TestGetOfNumbersOfElements(t *testing.T) {
	wantGet(t, toHeld+"\x01\x01a"+one, 0, state{
		Time: 1, Num: 1, Token: 1,
		Sessions: []api.Session{opened(4, 1, 0)},
		Locks:    []api.Lock{held("a", 4, 1)},
		Memos:    []api.Memo{said(4, 1, api.OK, 1, 0, grant("a", 1))},
	}, len(toHeld)+11, api.OK)
	long := "\x0d" // a name that is too long
	for _, c := range []struct {
		ahead string
		most  int
		in    string // an element, or its start, that is told with code
		code  api.Errno
	}{
		{toSessions, 5, "\x01" + great, api.ErrForm},
		{toSessions, 5, "\x01" + one + most, api.ErrShort},
		{toLocks, 4, long, api.ErrLong},
		{toLocks, 4, "\x01a\x04" + great, api.ErrForm},
		{toLine, 3, "\x04\x04", api.ErrShort},
		{toMemos, 8, "\x04" + one + "\x00" + one + "\x00\x01" + long, api.ErrLong},
		{toMemos, 8, "\x04" + zero, api.ErrShort},
		{toHeld, 4, long, api.ErrLong},
		{toHeld, 4, "\x01a" + zeros, api.ErrShort},
	} {
		for n := 1; n <= c.most; n++ {
			wantNone(t, c.ahead+string(rune(n)), api.ErrShort)
			wantNone(t, c.ahead+string(rune(n))+c.in, c.code)
		}
		for n := c.most + 1; n <= 255; n++ {
			b := c.ahead + string([]byte{byte(n)})
			wantNone(t, b, api.ErrForm)
			wantNone(t, b+c.in, api.ErrForm)
			wantNone(t, b+strings.Repeat("\x00", 17*n), api.ErrForm)
		}
		wantNone(t, c.ahead, api.ErrShort)
	}
}

// One element more than there may be, with all of them there, is ErrForm: as
// many as there may be are read.
func TestGetOfOneElementMore(t *testing.T) {
	wantGet(t, text(full()), 0, full(), len(text(full())), api.OK)
	for _, turn := range []func(s *state){
		func(s *state) { s.Sessions = append(s.Sessions, opened(7, 1, 1)) },
		func(s *state) { s.Locks = append(s.Locks, held("zzzzzzzzzzzzz", 7, 1)) },
		func(s *state) { s.Locks[3].Line = append(s.Locks[3].Line, 2) },
		func(s *state) { s.Memos = append(s.Memos, said(7, 1, api.OK, 0, 0)) },
		func(s *state) { s.Memos[7].Reply.Held = append(s.Memos[7].Reply.Held, grant("zzzzzzzzzzzzz", 1)) },
	} {
		wantNone(t, text(turned(full(), turn)), api.ErrForm)
	}
}

// Numbers and texts in each place at which there is one.
func TestGetOfFieldsThatAreNone(t *testing.T) {
	number := []struct {
		ahead string
		what  string
	}{
		{"", "Time"},
		{one, "Num"},
		{one + one, "Token"},
		{toSessions + "\x01\x04", "Num of a session"},
		{toSessions + "\x01\x04" + one, "Renewed"},
		{toLocks + "\x01\x01a\x04", "Token of a lock"},
		{toMemos + "\x01\x04", "Seq"},
		{toMemos + "\x01\x04" + one + "\x00", "Session of a reply"},
		{toHeld + "\x01\x01a", "Token of a grant"},
	}
	for _, c := range number {
		for _, v := range []string{great, "\x7f\xff\xff\xff\xff\xff\xff\xff", "\x80" + zeros, "\xff\xff\xff\xff\xff\xff\xff\xff"} {
			for n := range len(v) {
				wantNone(t, c.ahead+v[:n], api.ErrShort)
			}
			wantNone(t, c.ahead+v, api.ErrForm)
			wantNone(t, c.ahead+v+"\x0d", api.ErrForm)
		}
	}
	for _, ahead := range []string{toLocks + "\x01", toHeld + "\x01"} {
		for n := range 13 {
			name := twelve[:n]
			wantNone(t, ahead+string(rune(n))+name, api.ErrShort)
			if n > 0 {
				wantNone(t, ahead+string(rune(n))+name[1:], api.ErrShort)
			}
		}
		for n := 13; n <= 255; n++ {
			length := string([]byte{byte(n)})
			wantNone(t, ahead+length, api.ErrLong)
			wantNone(t, ahead+length+strings.Repeat("a", n)+strings.Repeat("\x00", 99), api.ErrLong)
		}
	}
}

// R2: that a state is not right is told last, and that an answer is not
// well-formed as soon as it is read.
func TestGetTellsTheFirstError(t *testing.T) {
	bad := "\x04" + zero + "\x00" + zero + "\x00\x00" // an answer with Seq 0
	for _, c := range []struct {
		b    string
		want api.Errno
	}{
		{above + one[:7], api.ErrShort},                                                // a Time above High, no Num
		{great + one[:7], api.ErrForm},                                                 // a Time of 2^62, no Num
		{above + great, api.ErrForm},                                                   // a Time above High, a Num of 2^62
		{one + zero + above + "\x01\x04" + one, api.ErrShort},                          // a Token above High, no Renewed
		{toSessions + "\x01\xff" + one, api.ErrShort},                                  // no client, no Renewed
		{toSessions + "\x01\xff" + one + one + "\x01\x0d", api.ErrLong},                // no client, a name too long
		{toSessions + "\x01\x04" + above + one + "\x01\x0d", api.ErrLong},              // a session's Num above High, a name too long
		{one + zero + one + "\x01\x04" + one + one + "\x00", api.ErrShort},             // a session's Num above Num, no memos
		{toSessions + "\x02\x04" + one + one + "\x04" + one + one + "\x00", 2},         // a client twice, no memos
		{toSessions + "\x02\x04" + one + one + "\x04" + one + one + "\x05", 4},         // a client twice, five locks
		{toLocks + "\x01\x00\x04" + one, api.ErrShort},                                 // no name, no line
		{toLocks + "\x01\x01A\xff" + zero + "\x04", api.ErrForm},                       // no name, no client, four in line
		{toLocks + "\x01\x01A\xff" + zero + "\x03\x04", api.ErrShort},                  // no name, no client, one of three in line
		{toLocks + "\x01\x0d" + twelve, api.ErrLong},                                   // a name too long and cut off
		{toLocks + "\x01\x0c" + twelve[1:], api.ErrShort},                              // a name cut off
		{toLocks + "\x02\x01a\x04" + one + "\x00\x01a\x04" + great, api.ErrForm},       // a name twice, a token of 2^62
		{toLocks + "\x02\x01b\x04" + one + "\x00\x0d", api.ErrLong},                    // a name too long behind another
		{toLine + "\x02\x04\x04", api.ErrShort},                                        // a holder that waits, no memos
		{toLine + "\x02\x04\x04\x09", api.ErrForm},                                     // a holder that waits, nine memos
		{toLine + "\x01\x07\x01\x04" + one + "\x00" + one + "\x00\x01\x0d", 3},         // one waits without a session, a name too long
		{toLocks + "\x01\x01a\x07" + one + "\x00\x01\x04", api.ErrShort},               // a holder without a session, no Seq
		{toMemos + "\x02" + bad, api.ErrForm},                                          // no answer, and none
		{toMemos + "\x02" + bad + "\x04" + one + "\x00" + one + "\x00\x01\x0d", 4},     // no answer, a name too long
		{toMemos + "\x02" + bad[:len(bad)-1], api.ErrShort},                            // no answer, cut off
		{toMemos + "\x01\xff" + one + "\x0d" + above + "\x09\x01\x0d", api.ErrLong},    // no client, code, session, Ahead; a name too long
		{toMemos + "\x01\xff" + one + "\x0d" + above + "\x09\x05\x0d", api.ErrForm},    // the same, five held
		{toMemos + "\x02\x04" + one + "\x00" + zero + "\x00\x00\x04", api.ErrShort},    // one memo, a part of one
		{toMemos + "\x02\x04" + one + "\x0d" + zero + "\x00\x00\x04", api.ErrForm},     // a reply without a code, a part of one
		{toMemos + "\x02\x04" + one + "\x00" + zero + "\x04\x00\x04", api.ErrForm},     // a reply with four ahead, a part of one
		{toMemos + "\x03" + strings.Repeat("\x04"+one+"\x00"+zero+"\x00\x00", 2), 2},   // a client's memo twice, no third
		{toMemos + "\x02" + strings.Repeat("\x04"+one+"\x00"+zero+"\x00\x00", 2), 4},   // a client's memo twice
		{above + one + one + "\x01\x04" + one + one + "\x00\x01" + bad, api.ErrForm},   // a Time above High, no answer
		{above + one + one + "\x01\x04" + one + one + "\x00\x00", api.ErrForm},         // a Time above High
		{"\x20" + zeros + one + one + "\x01\x04" + one + above + "\x00", api.ErrShort}, // Renewed above High, no memos
	} {
		wantNone(t, c.b, c.want)
	}
}
