package cmd_test

import (
	"math"
	"testing"

	"padlock/api"
	"padlock/cmd"
)

const take = "\x03\x00\x00\x00\x00\x00\x00\x00\x05\x03a-9" // Take of session 5 and "a-9"

// clients are the numbers of clients, and others: some of them end in the byte
// of one.
var clients = []int{math.MinInt, -256, -8, -1, 0, 1, 7, 8, 9, 255, 256, 263, 1 << 32, math.MaxInt}

// eachReq calls f with requests that have each of the clients, numbers and
// commands, well-formed or not.
func eachReq(f func(r api.Req)) {
	for _, client := range clients {
		for _, seq := range numbers {
			for _, c := range []api.Cmd{
				{Kind: api.Open},
				{Kind: api.Keep, Session: 1},
				{Kind: api.Take, Session: api.High, Name: twelve},
				{Kind: api.Free, Session: 3, Name: "a"},
				{},
				{Kind: api.Open, Session: 1},
				{Kind: api.Keep},
				{Kind: api.Take, Session: 1, Name: "A"},
				{Kind: api.Close, Session: api.High + 1},
				{Kind: api.Try, Session: 1, Name: thirteen},
			} {
				f(api.Req{Client: client, Seq: seq, Cmd: c})
			}
		}
	}
}

func wantPutReq(t *testing.T, r api.Req, want string, wantCode api.Errno) {
	t.Helper()
	if b, code := cmd.PutReq(r); string(b) != want || code != wantCode {
		t.Errorf("PutReq(%+v) = %q, %d; want %q, %d", r, b, code, want, wantCode)
	}
}

func wantGetReq(t *testing.T, b []byte, at int, want api.Req, wantNext int, wantCode api.Errno) {
	t.Helper()
	if r, next, code := cmd.GetReq(b, at); r != want || next != wantNext || code != wantCode {
		t.Errorf("GetReq(%q, %d) = %+v, %d, %d; want %+v, %d, %d", b, at, r, next, code, want, wantNext, wantCode)
	}
}

// 4.2: MayReq

// mayReq is what 4.2 says.
func mayReq(r api.Req) bool {
	return r.Client >= 0 && r.Client <= 7 && r.Seq >= 1 && r.Seq <= 1<<61 && may(r.Cmd)
}

func TestMayReq(t *testing.T) {
	keep := api.Cmd{Kind: api.Keep, Session: 4}
	for _, p := range []struct {
		r    api.Req
		want bool
	}{
		{api.Req{Client: 0, Seq: 1, Cmd: keep}, true},
		{api.Req{Client: 7, Seq: 1, Cmd: keep}, true},
		{api.Req{Client: 8, Seq: 1, Cmd: keep}, false},
		{api.Req{Client: -1, Seq: 1, Cmd: keep}, false},
		{api.Req{Client: 3, Seq: 0, Cmd: keep}, false},
		{api.Req{Client: 3, Seq: -1, Cmd: keep}, false},
		{api.Req{Client: 3, Seq: api.High, Cmd: keep}, true},
		{api.Req{Client: 3, Seq: api.High + 1, Cmd: keep}, false},
		{api.Req{Client: 3, Seq: 1, Cmd: api.Cmd{Kind: api.Open}}, true},
		{api.Req{Client: 3, Seq: 1, Cmd: api.Cmd{Kind: api.Open, Session: 1}}, false},
		{api.Req{Client: 3, Seq: 1, Cmd: api.Cmd{Kind: api.Take, Session: 1, Name: "A"}}, false},
		{api.Req{Client: 3, Seq: 1}, false},
		{api.Req{}, false},
	} {
		if got := cmd.MayReq(p.r); got != p.want || mayReq(p.r) != p.want {
			t.Errorf("MayReq(%+v) = %v; want %v", p.r, got, p.want)
		}
	}
}

func TestMayReqOfAnything(t *testing.T) {
	eachReq(func(r api.Req) {
		if got, want := cmd.MayReq(r), mayReq(r); got != want {
			t.Errorf("MayReq(%+v) = %v; want %v", r, got, want)
		}
	})
	eachCmd(func(c api.Cmd) {
		r := api.Req{Client: 7, Seq: 1, Cmd: c}
		if got, want := cmd.MayReq(r), may(c); got != want {
			t.Errorf("MayReq(%+v) = %v; want %v", r, got, want)
		}
	})
}

// 4.2: PutReq

func TestPutReq(t *testing.T) {
	c := api.Cmd{Kind: api.Take, Session: 5, Name: "a-9"}
	wantPutReq(t, api.Req{Client: 6, Seq: 258, Cmd: c}, "\x06\x00\x00\x00\x00\x00\x00\x01\x02"+take, api.OK)
	wantPutReq(t, api.Req{Client: 0, Seq: api.High, Cmd: c}, "\x00\x20\x00\x00\x00\x00\x00\x00\x00"+take, api.OK)
	wantPutReq(t, api.Req{Client: 7, Seq: 1, Cmd: api.Cmd{Kind: api.Open}}, "\x07\x00\x00\x00\x00\x00\x00\x00\x01\x01\x00\x00\x00\x00\x00\x00\x00\x00\x00", api.OK)
}

func TestPutReqOfWhatIsNotWellFormed(t *testing.T) {
	c := api.Cmd{Kind: api.Take, Session: 5, Name: "a-9"}
	for _, r := range []api.Req{
		{},
		{Client: 8, Seq: 1, Cmd: c},
		{Client: -1, Seq: 1, Cmd: c},
		{Client: 263, Seq: 1, Cmd: c},
		{Client: 1, Seq: 0, Cmd: c},
		{Client: 1, Seq: -1, Cmd: c},
		{Client: 1, Seq: api.High + 1, Cmd: c},
		{Client: 1, Seq: 1},
		{Client: 1, Seq: 1, Cmd: api.Cmd{Kind: api.Take, Session: 5, Name: "A"}},
	} {
		wantPutReq(t, r, "", api.ErrArg)
	}
}

// 4.2: GetReq

func TestGetReq(t *testing.T) {
	whole := "\x06\x00\x00\x00\x00\x00\x00\x01\x02" + take
	b := []byte("!" + whole + whole + "?")
	r := api.Req{Client: 6, Seq: 258, Cmd: api.Cmd{Kind: api.Take, Session: 5, Name: "a-9"}}
	wantGetReq(t, b, 1, r, 23, api.OK)
	wantGetReq(t, b, 23, r, 45, api.OK)
	wantGetReq(t, b[:45], 23, r, 45, api.OK)
	wantGetReq(t, b[:44], 23, api.Req{}, 0, api.ErrShort)
	wantGetReq(t, []byte("\x00\x20\x00\x00\x00\x00\x00\x00\x00\x01\x00\x00\x00\x00\x00\x00\x00\x00\x00"), 0,
		api.Req{Client: 0, Seq: api.High, Cmd: api.Cmd{Kind: api.Open}}, 19, api.OK)
}

func TestGetReqOfWhatIsNotWellFormed(t *testing.T) {
	for _, s := range []string{
		"\x08\x00\x00\x00\x00\x00\x00\x00\x01" + take,
		"\xff\x00\x00\x00\x00\x00\x00\x00\x01" + take,
		"\x00\x00\x00\x00\x00\x00\x00\x00\x00" + take,
		"\x00\x20\x00\x00\x00\x00\x00\x00\x01" + take,
		"\x00\x3f\xff\xff\xff\xff\xff\xff\xff" + take,
		"\x00\x00\x00\x00\x00\x00\x00\x00\x01" + "\x07" + take[1:],
		"\x00\x00\x00\x00\x00\x00\x00\x00\x01" + take[:12] + "A",
	} {
		wantGetReq(t, []byte(s), 0, api.Req{}, 0, api.ErrForm)
		wantGetReq(t, []byte("\x00\x00\x00"+s+"\x00"), 3, api.Req{}, 0, api.ErrForm)
	}
}

// R2: the errors of Client, Seq and the command come in this order, and that
// the request is not well-formed comes last.
func TestGetReqTellsTheFirstError(t *testing.T) {
	for _, p := range []struct {
		s    string
		want api.Errno
	}{
		{"\x08", api.ErrShort},                                                         // no client, no Seq
		{"\x08\xff\xff\xff\xff\xff\xff\xff", api.ErrShort},                             // no client, seven bytes of what could only be too great
		{"\x00\x40\x00\x00\x00\x00\x00\x00\x00", api.ErrForm},                          // a Seq of 2^62, no command
		{"\xff\x80\x00\x00\x00\x00\x00\x00\x01" + take[:9] + "\x0d", api.ErrForm},      // a Seq too great, a name too long
		{"\x08\x00\x00\x00\x00\x00\x00\x00\x00", api.ErrShort},                         // no client, Seq 0, no command
		{"\x00\x20\x00\x00\x00\x00\x00\x00\x01" + take[:12], api.ErrShort},             // a Seq above High, a name cut off
		{"\x08\x00\x00\x00\x00\x00\x00\x00\x01" + take[:9] + "\x0d", api.ErrLong},      // no client, a name too long
		{"\x00\x00\x00\x00\x00\x00\x00\x00\x00" + take[:9] + "\xff", api.ErrLong},      // Seq 0, a name too long
		{"\x00\x00\x00\x00\x00\x00\x00\x00\x01\x07" + take[1:9] + "\x0d", api.ErrLong}, // no kind, a name too long
		{"\x00\x00\x00\x00\x00\x00\x00\x00\x01\x07" + take[1:12], api.ErrShort},        // no kind, a name cut off
		{"\x08\x00\x00\x00\x00\x00\x00\x00\x01\x03\x40" + take[2:9], api.ErrForm},      // no client, a session of 2^62, no length
	} {
		wantGetReq(t, []byte(p.s), 0, api.Req{}, 0, p.want)
		wantGetReq(t, []byte("\x01"+p.s), 1, api.Req{}, 0, p.want)
	}
}
