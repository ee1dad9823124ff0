package reply_test

import (
	"math"
	"strings"
	"testing"

	"padlock/api"
	"padlock/reply"
)

const waits = "\x0a" + zeros + "\x05\x02\x01\x03a-9" + zeros + "\x03"

// clients are the numbers of clients, and others: some of them end in the byte
// of one.
var clients = []int{math.MinInt, -256, -8, -1, 0, 1, 6, 7, 8, 9, 255, 256, 263, 1 << 32, math.MaxInt}

// waiting returns the reply that waits encodes.
func waiting() api.Reply {
	return api.Reply{Code: api.ErrWait, Session: 5, Ahead: 2, Held: of("a-9", 3)}
}

// eachAnswer calls f with answers that have each of the clients, numbers and
// some replies, well-formed or not.
func eachAnswer(f func(a api.Answer)) {
	for _, r := range []api.Reply{
		{},
		waiting(),
		{Code: api.ErrHalt, Session: api.High, Ahead: 3, Held: grants("-", "0", "a", twelve)},
		{Session: 1, Held: []api.Grant{}},
		{Code: -1},
		{Code: 13},
		{Session: api.High + 1},
		{Ahead: 4},
		{Held: grants("a")},
		{Session: 1, Held: grants("b", "a")},
		{Session: 1, Held: grants("a", "b", "c", "d", "e")},
		{Session: 1, Held: of("a", 0)},
	} {
		for _, client := range clients {
			for _, seq := range numbers {
				f(api.Answer{Client: client, Seq: seq, Reply: r})
			}
		}
	}
}

func sameAnswer(a, b api.Answer) bool {
	return a.Client == b.Client && a.Seq == b.Seq && same(a.Reply, b.Reply)
}

func wantPutAnswer(t *testing.T, a api.Answer, want string, wantCode api.Errno) {
	t.Helper()
	if b, code := reply.PutAnswer(a); string(b) != want || code != wantCode {
		t.Errorf("PutAnswer(%+v) = %q, %d; want %q, %d", a, b, code, want, wantCode)
	}
}

func wantGetAnswer(t *testing.T, b []byte, at int, want api.Answer, wantNext int, wantCode api.Errno) {
	t.Helper()
	if a, next, code := reply.GetAnswer(b, at); !sameAnswer(a, want) || next != wantNext || code != wantCode {
		t.Errorf("GetAnswer(%q, %d) = %+v, %d, %d; want %+v, %d, %d", b, at, a, next, code, want, wantNext, wantCode)
	}
}

// 5.2: MayAnswer

// mayAnswer is what 5.2 says.
func mayAnswer(a api.Answer) bool {
	return a.Client >= 0 && a.Client <= 7 && a.Seq >= 1 && a.Seq <= 1<<61 && may(a.Reply)
}

func TestMayAnswer(t *testing.T) {
	r := waiting()
	for _, p := range []struct {
		a    api.Answer
		want bool
	}{
		{api.Answer{Client: 0, Seq: 1, Reply: r}, true},
		{api.Answer{Client: 7, Seq: 1, Reply: r}, true},
		{api.Answer{Client: 8, Seq: 1, Reply: r}, false},
		{api.Answer{Client: -1, Seq: 1, Reply: r}, false},
		{api.Answer{Client: 3, Seq: 0, Reply: r}, false},
		{api.Answer{Client: 3, Seq: -1, Reply: r}, false},
		{api.Answer{Client: 3, Seq: api.High, Reply: r}, true},
		{api.Answer{Client: 3, Seq: api.High + 1, Reply: r}, false},
		{api.Answer{Client: 3, Seq: 1}, true},
		{api.Answer{Client: 3, Seq: 1, Reply: api.Reply{Code: 13}}, false},
		{api.Answer{Client: 3, Seq: 1, Reply: api.Reply{Held: grants("a")}}, false},
		{api.Answer{Seq: 1}, true},
		{api.Answer{}, false},
	} {
		if got := reply.MayAnswer(p.a); got != p.want || mayAnswer(p.a) != p.want {
			t.Errorf("MayAnswer(%+v) = %v; want %v", p.a, got, p.want)
		}
	}
}

func TestMayAnswerOfAnything(t *testing.T) {
	eachAnswer(func(a api.Answer) {
		if got, want := reply.MayAnswer(a), mayAnswer(a); got != want {
			t.Fatalf("MayAnswer(%+v) = %v; want %v", a, got, want)
		}
	})
	eachReply(func(r api.Reply) {
		a := api.Answer{Client: 7, Seq: 1, Reply: r}
		if got, want := reply.MayAnswer(a), may(r); got != want {
			t.Fatalf("MayAnswer(%+v) = %v; want %v", a, got, want)
		}
	})
}

// 5.2: PutAnswer

func TestPutAnswer(t *testing.T) {
	wantPutAnswer(t, api.Answer{Client: 6, Seq: 258, Reply: waiting()}, "\x06\x00\x00\x00\x00\x00\x00\x01\x02"+waits, api.OK)
	wantPutAnswer(t, api.Answer{Client: 0, Seq: api.High, Reply: waiting()}, "\x00"+high+waits, api.OK)
	wantPutAnswer(t, api.Answer{Client: 7, Seq: 1}, "\x07"+one+strings.Repeat("\x00", 11), api.OK)
}

func TestPutAnswerOfWhatIsNotWellFormed(t *testing.T) {
	r := waiting()
	for _, a := range []api.Answer{
		{},
		{Client: 8, Seq: 1, Reply: r},
		{Client: -1, Seq: 1, Reply: r},
		{Client: 263, Seq: 1, Reply: r},
		{Client: 1, Seq: 0, Reply: r},
		{Client: 1, Seq: -1, Reply: r},
		{Client: 1, Seq: api.High + 1, Reply: r},
		{Client: 1, Seq: 1, Reply: api.Reply{Ahead: 4}},
		{Client: 1, Seq: 1, Reply: api.Reply{Session: 1, Held: grants("b", "a")}},
	} {
		wantPutAnswer(t, a, "", api.ErrArg)
	}
}

// 5.2: GetAnswer

func TestGetAnswer(t *testing.T) {
	whole := "\x06\x00\x00\x00\x00\x00\x00\x01\x02" + waits
	b := []byte("!" + whole + whole + "?")
	a := api.Answer{Client: 6, Seq: 258, Reply: waiting()}
	wantGetAnswer(t, b, 1, a, 33, api.OK)
	wantGetAnswer(t, b, 33, a, 65, api.OK)
	wantGetAnswer(t, b[:65], 33, a, 65, api.OK)
	wantGetAnswer(t, b[:64], 33, api.Answer{}, 0, api.ErrShort)
	wantGetAnswer(t, []byte("\x00"+high+strings.Repeat("\x00", 11)), 0, api.Answer{Client: 0, Seq: api.High}, 20, api.OK)
	wantGetAnswer(t, nil, 0, api.Answer{}, 0, api.ErrShort)
}

func TestGetAnswerOfWhatIsNotWellFormed(t *testing.T) {
	for _, s := range []string{
		"\x08" + one + waits,
		"\xff" + one + waits,
		"\x00" + zeros + "\x00" + waits,
		"\x00" + aHigh + waits,
		"\x00\x3f\xff\xff\xff\xff\xff\xff\xff" + waits,
		"\x00" + one + "\x0d" + waits[1:],
		"\x00" + one + waits[:9] + "\x04" + waits[10:],
		"\x00" + one + waits[:14] + "A" + waits[15:],
	} {
		wantGetAnswer(t, []byte(s), 0, api.Answer{}, 0, api.ErrForm)
		wantGetAnswer(t, []byte("\x00\x00\x00"+s+"\x00"), 3, api.Answer{}, 0, api.ErrForm)
	}
}

// R2: the errors of Client, Seq and the reply come in this order, and that the
// answer is not well-formed comes last.
func TestGetAnswerTellsTheFirstError(t *testing.T) {
	for _, p := range []struct {
		s    string
		want api.Errno
	}{
		{"\x08", api.ErrShort},                                            // no client, no Seq
		{"\x08\xff\xff\xff\xff\xff\xff\xff", api.ErrShort},                // no client, seven bytes of what could only be too great
		{"\x00" + great, api.ErrForm},                                     // a Seq of 2^62, no reply
		{"\xff\x80" + zeros + waits[:11] + "\x0d", api.ErrForm},           // a Seq too great, a name too long
		{"\x08" + zeros + "\x00", api.ErrShort},                           // no client, Seq 0, no reply
		{"\x00" + aHigh + waits[:14], api.ErrShort},                       // a Seq above High, a name cut off
		{"\x08" + one + waits[:11] + "\x0d", api.ErrLong},                 // no client, a name too long
		{"\x00" + zeros + "\x00" + waits[:11] + "\xff", api.ErrLong},      // Seq 0, a name too long
		{"\x08" + one + waits[:10] + "\x05\x0d", api.ErrForm},             // no client, five elements
		{"\x00" + one + "\x0d" + waits[1:11] + "\x0d", api.ErrLong},       // no code, a name too long
		{"\x00" + one + "\x0d" + waits[1:15], api.ErrShort},               // no code, no token
		{"\x08" + one + "\x0a" + great, api.ErrForm},                      // no client, a session of 2^62, no Ahead
		{"\x08" + aHigh + waits[:len(waits)-1], api.ErrShort},             // no client, a token cut off
		{"\x08" + zeros + "\x00" + waits[:15] + great + "?", api.ErrForm}, // no client, a token too great
	} {
		wantGetAnswer(t, []byte(p.s), 0, api.Answer{}, 0, p.want)
		wantGetAnswer(t, []byte("\x01"+p.s), 1, api.Answer{}, 0, p.want)
	}
}
