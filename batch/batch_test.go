package batch_test

import (
	"encoding/binary"
	"math"
	"reflect"
	"strings"
	"testing"

	"padlock/api"
	"padlock/batch"
)

const (
	zeros    = "\x00\x00\x00\x00\x00\x00\x00"
	zero     = zeros + "\x00"
	one      = zeros + "\x01"
	high     = "\x20\x00\x00\x00\x00\x00\x00\x00"
	above    = "\x20\x00\x00\x00\x00\x00\x00\x01" // High and 1
	most     = "\x3f\xff\xff\xff\xff\xff\xff\xff" // the greatest number that is read
	great    = "\x40\x00\x00\x00\x00\x00\x00\x00"
	twelve   = "twelve-bytes"
	thirteen = "thirteenbytes"
)

// inRange are numbers that a View, a Time or a part of a Tip may be; offRange
// are numbers that it may not be.
var (
	inRange  = []int{0, 1, 255, 256, 1 << 32, api.High - 1, api.High}
	offRange = []int{math.MinInt, -api.High, -256, -2, -1, api.High + 1, 1<<62 - 1, 1 << 62, math.MaxInt}
)

// keep and take make requests, of which each client has others.

func keep(client int) api.Req {
	return api.Req{Client: client, Seq: client + 1, Cmd: api.Cmd{Kind: api.Keep, Session: 4}}
}

func take(client int, name string) api.Req {
	return api.Req{Client: client, Seq: 300 - client, Cmd: api.Cmd{Kind: api.Take, Session: 258, Name: name}}
}

// plain returns a batch with two requests; plainText is that batch as bytes.
func plain() api.Batch {
	return api.Batch{View: 7, Tip: api.Tip{View: 6, Slot: 5}, Time: 258, Reqs: []api.Req{take(3, "a-9"), keep(1)}}
}

const (
	plainHead = "\x00" + zeros + "\x07" + zeros + "\x06" + zeros + "\x05" + "\x00\x00\x00\x00\x00\x00\x01\x02"
	ofThree   = "\x03\x00\x00\x00\x00\x00\x00\x01\x29" + "\x03\x00\x00\x00\x00\x00\x00\x01\x02" + "\x03a-9"
	ofOne     = "\x01" + zeros + "\x02" + "\x02" + zeros + "\x04" + "\x00"
	plainText = plainHead + "\x02" + ofThree + ofOne
)

// full returns a batch in which there is as much of all as there may be, and
// all numbers are as great as they may be.
func full() api.Batch {
	b := api.Batch{View: api.High, Tip: api.Tip{View: api.High, Slot: api.High}, Time: api.High}
	for i, name := range []string{twelve, "zzzzzzzzzzzz", "------------"} {
		c := api.Cmd{Kind: api.Take + i, Session: api.High, Name: name}
		b.Reqs = append(b.Reqs, api.Req{Client: 7 - i, Seq: api.High, Cmd: c})
	}
	return b
}

// wellFormed returns batches with each number of requests, among them requests
// of each kind. Each call makes them anew.
func wellFormed() []api.Batch {
	return []api.Batch{
		{},
		{Fill: true},
		{Reqs: []api.Req{}},
		{Fill: true, Reqs: []api.Req{}},
		{View: 1},
		{Time: 1},
		{Tip: api.Tip{View: 1}},
		{Tip: api.Tip{Slot: 1}},
		{View: api.High, Time: 255},
		{Tip: api.Tip{View: 256, Slot: api.High}, Time: api.High - 1},
		{Reqs: []api.Req{keep(0)}},
		{Reqs: []api.Req{take(0, "-"), keep(7), take(4, twelve)}},
		{View: 1 << 40, Reqs: []api.Req{
			{Client: 5, Seq: 1, Cmd: api.Cmd{Kind: api.Open}},
			{Client: 2, Seq: 1, Cmd: api.Cmd{Kind: api.Free, Session: 1, Name: "q"}},
			{Client: 6, Seq: 1, Cmd: api.Cmd{Kind: api.Close, Session: 1}},
		}},
		plain(),
		full(),
	}
}

// wrong is a change that makes a batch one that is not well-formed, and how
// reading its bytes ends.
type wrong struct {
	turn func(b *api.Batch)
	code api.Errno
}

// wrongs are changes of plain.
func wrongs() []wrong {
	var all []wrong
	for _, v := range offRange {
		all = append(all,
			wrong{func(b *api.Batch) { b.View = v }, api.ErrForm},
			wrong{func(b *api.Batch) { b.Tip.View = v }, api.ErrForm},
			wrong{func(b *api.Batch) { b.Tip.Slot = v }, api.ErrForm},
			wrong{func(b *api.Batch) { b.Time = v }, api.ErrForm},
		)
	}
	for i := range plain().Reqs {
		all = append(all, wrongReqs(i)...)
	}
	return append(all,
		wrong{func(b *api.Batch) { b.Reqs[1].Client = 3 }, api.ErrForm},
		wrong{func(b *api.Batch) { b.Reqs[1] = b.Reqs[0] }, api.ErrForm},
		wrong{func(b *api.Batch) { b.Reqs = append(b.Reqs, keep(3)) }, api.ErrForm},
		wrong{func(b *api.Batch) { b.Reqs = append(b.Reqs, take(1, "b")) }, api.ErrForm},
		wrong{func(b *api.Batch) { b.Reqs = append(b.Reqs, keep(0), keep(2)) }, api.ErrForm},
		wrong{func(b *api.Batch) { b.Reqs = append(b.Reqs, keep(0), keep(2), keep(4)) }, api.ErrForm},
		wrong{func(b *api.Batch) { b.Reqs = append(b.Reqs, api.Req{}) }, api.ErrForm},
		wrong{func(b *api.Batch) { b.Reqs = []api.Req{{}} }, api.ErrForm},
		wrong{func(b *api.Batch) { b.Reqs = make([]api.Req, 255) }, api.ErrForm},
	)
}

// wrongReqs are changes of one request.
func wrongReqs(i int) []wrong {
	var all []wrong
	for _, v := range []int{8, 255} {
		all = append(all, wrong{func(b *api.Batch) { b.Reqs[i].Client = v }, api.ErrForm})
	}
	for _, v := range append([]int{0}, offRange...) {
		all = append(all,
			wrong{func(b *api.Batch) { b.Reqs[i].Seq = v }, api.ErrForm},
			wrong{func(b *api.Batch) { b.Reqs[i].Cmd.Session = v }, api.ErrForm},
		)
	}
	for _, kind := range []int{0, api.Open, 7, 255} {
		all = append(all, wrong{func(b *api.Batch) { b.Reqs[i].Cmd.Kind = kind }, api.ErrForm})
	}
	return append(all,
		wrong{func(b *api.Batch) { b.Reqs[i].Cmd = api.Cmd{Kind: api.Take, Session: 1} }, api.ErrForm},
		wrong{func(b *api.Batch) { b.Reqs[i].Cmd.Name = "A" }, api.ErrForm},
		wrong{func(b *api.Batch) { b.Reqs[i].Cmd.Name = "a\x00" }, api.ErrForm},
		wrong{func(b *api.Batch) { b.Reqs[i].Cmd.Name = thirteen }, api.ErrLong},
		wrong{func(b *api.Batch) { b.Reqs[i] = api.Req{} }, api.ErrForm},
	)
}

// notWellFormed returns batches that are not well-formed, among them some that
// would be if only the last bytes of their numbers counted.
func notWellFormed() []api.Batch {
	var all []api.Batch
	for _, w := range wrongs() {
		all = append(all, turned(plain(), w.turn))
	}
	for _, turn := range []func(b *api.Batch){
		func(b *api.Batch) { b.Reqs[0].Client += 256 },
		func(b *api.Batch) { b.Reqs[1].Client -= 256 },
		func(b *api.Batch) { b.Reqs[0].Client = -1 },
		func(b *api.Batch) { b.Reqs[0].Cmd.Kind += 1 << 32 },
		func(b *api.Batch) { b.Reqs = make([]api.Req, 256) },
		func(b *api.Batch) { b.Reqs = append(make([]api.Req, 256), b.Reqs...) },
		func(b *api.Batch) { b.Reqs[0].Cmd.Name = strings.Repeat("q", 256) },
	} {
		all = append(all, turned(plain(), turn))
	}
	return append(all, notFills()...)
}

// notFills returns Fills in which another field is not zero.
func notFills() []api.Batch {
	var all []api.Batch
	for _, v := range append([]int{1, 256, api.High}, offRange...) {
		all = append(all,
			api.Batch{Fill: true, View: v},
			api.Batch{Fill: true, Tip: api.Tip{View: v}},
			api.Batch{Fill: true, Tip: api.Tip{Slot: v}},
			api.Batch{Fill: true, Time: v},
		)
	}
	b := plain()
	b.Fill = true
	return append(all, b,
		api.Batch{Fill: true, Reqs: []api.Req{keep(1)}},
		api.Batch{Fill: true, Reqs: []api.Req{{}}},
		api.Batch{Fill: true, Reqs: full().Reqs},
	)
}

// turned returns b, which nobody else has, with a change.
func turned(b api.Batch, turn func(b *api.Batch)) api.Batch {
	turn(&b)
	return b
}

// copyOf returns b in memory of its own; a list that is empty is nil.
func copyOf(b api.Batch) api.Batch {
	b.Reqs = append([]api.Req(nil), b.Reqs...)
	return b
}

func same(a, b api.Batch) bool {
	return reflect.DeepEqual(copyOf(a), copyOf(b))
}

// text returns b, well-formed or not, as bytes, as 12.1 says.
func text(b api.Batch) string {
	if b.Fill {
		return "\x01"
	}
	put := []byte{0}
	num := func(v int) { put = binary.BigEndian.AppendUint64(put, uint64(v)) }
	small := func(v int) { put = append(put, byte(v)) }
	num(b.View)
	num(b.Tip.View)
	num(b.Tip.Slot)
	num(b.Time)
	small(len(b.Reqs))
	for _, r := range b.Reqs {
		small(r.Client)
		num(r.Seq)
		small(r.Cmd.Kind)
		num(r.Cmd.Session)
		small(len(r.Cmd.Name))
		put = append(put, r.Cmd.Name...)
	}
	return string(put)
}

// wantMay asks whether b is well-formed, which Put must agree with.
func wantMay(t *testing.T, b api.Batch, want bool) {
	t.Helper()
	if got := batch.May(b); got != want {
		t.Errorf("May(%+v) = %v; want %v", b, got, want)
	}
	if want {
		wantPut(t, b, text(b), api.OK)
	} else {
		wantPut(t, b, "", api.ErrArg)
	}
}

func wantPut(t *testing.T, b api.Batch, want string, wantCode api.Errno) {
	t.Helper()
	if put, code := batch.Put(b); string(put) != want || code != wantCode {
		t.Errorf("Put(%+v) = %q, %d; want %q, %d", b, put, code, want, wantCode)
	}
}

// 12.1: May

func TestMay(t *testing.T) {
	for _, b := range wellFormed() {
		wantMay(t, b, true)
	}
	for _, b := range notWellFormed() {
		wantMay(t, b, false)
	}
}

// A Fill alone is well-formed; one in which any other field is not zero is not.
func TestMayOfFills(t *testing.T) {
	wantMay(t, api.Batch{Fill: true}, true)
	wantMay(t, api.Batch{Fill: true, Reqs: []api.Req{}}, true)
	for _, b := range notFills() {
		wantMay(t, b, false)
	}
}

// Numbers at their edges, in each place at which there is one, whatever stands
// in the other places.
func TestMayOfNumbers(t *testing.T) {
	fields := func(b *api.Batch) []*int { return []*int{&b.View, &b.Tip.View, &b.Tip.Slot, &b.Time} }
	for _, start := range []api.Batch{{}, plain(), full()} {
		for i := range fields(&start) {
			for _, v := range inRange {
				b := copyOf(start)
				*fields(&b)[i] = v
				wantMay(t, b, true)
			}
			for _, v := range offRange {
				b := copyOf(start)
				*fields(&b)[i] = v
				wantMay(t, b, false)
			}
		}
	}
}

func TestMayOfHowManyRequests(t *testing.T) {
	for n := range 9 {
		b := plain()
		b.Reqs = nil
		for client := range n {
			b.Reqs = append(b.Reqs, keep(client))
		}
		wantMay(t, b, n <= 3)
	}
}

// Requests of all clients, in any order: no two of one client, wherever they
// stand, and whether or not they are the same.
func TestMayOfClients(t *testing.T) {
	for i := range 8 {
		for j := range 8 {
			wantMay(t, api.Batch{Reqs: []api.Req{keep(i), keep(j)}}, i != j)
			wantMay(t, api.Batch{Reqs: []api.Req{take(i, "a"), keep(j)}}, i != j)
			for k := range 8 {
				apart := i != j && j != k && i != k
				wantMay(t, api.Batch{Reqs: []api.Req{keep(i), keep(j), keep(k)}}, apart)
				wantMay(t, api.Batch{Reqs: []api.Req{take(i, "a"), keep(j), take(k, "b")}}, apart)
			}
		}
	}
}

// A request that is not well-formed, in each place.
func TestMayOfRequests(t *testing.T) {
	for i := range 3 {
		for _, w := range wrongReqs(i) {
			b := full()
			b.Reqs = []api.Req{take(2, "x"), take(0, "y"), take(1, "z")}
			wantMay(t, b, true)
			wantMay(t, turned(b, w.turn), false)
		}
	}
}

// 12.1: Put

func TestPut(t *testing.T) {
	wantPut(t, api.Batch{Fill: true}, "\x01", api.OK)
	wantPut(t, api.Batch{}, "\x00"+zero+zero+zero+zero+"\x00", api.OK)
	wantPut(t, api.Batch{View: 1, Tip: api.Tip{View: 256, Slot: api.High}, Time: 255}, "\x00"+one+"\x00\x00\x00\x00\x00\x00\x01\x00"+high+zeros+"\xff"+"\x00", api.OK)
	wantPut(t, plain(), plainText, api.OK)
	if text(plain()) != plainText {
		t.Errorf("text of %+v is %q", plain(), text(plain()))
	}
	for _, b := range wellFormed() {
		wantPut(t, b, text(b), api.OK)
	}
	if put, code := batch.Put(full()); len(put) != 1+4*8+1+3*31 || code != api.OK {
		t.Errorf("what is full is put as %d bytes, with code %d", len(put), code)
	}
}

func TestPutOfWhatIsNotWellFormed(t *testing.T) {
	for _, b := range notWellFormed() {
		wantPut(t, b, "", api.ErrArg)
	}
}
