package snap_test

import (
	"math/rand"
	"testing"

	"padlock/api"
	"padlock/auto"
	"padlock/snap"
)

// 11.3: what is right is read as it was put

// again returns s as it is read after it was put, alone and in a snapshot.
func again(t *testing.T, s state) state {
	t.Helper()
	b, code := snap.Put(s)
	if code != api.OK {
		t.Fatalf("Put(%+v): code %d", s, code)
	}
	read, next, code := snap.Get(b, 0)
	if !snap.Same(read, s) || !same(read, s) || next != len(b) || code != api.OK {
		t.Fatalf("%+v, put as %q, is read as %+v, %d, %d", s, b, read, next, code)
	}
	x := behind(s.Num, s.Token, s.Time, s)
	b, code = snap.PutSnap(x)
	if code != api.OK {
		t.Fatalf("PutSnap(%+v): code %d", x, code)
	}
	y, next, code := snap.GetSnap(b, 0)
	if !sameSnap(y, x) || !snap.Same(y.State, s) || next != len(b) || code != api.OK {
		t.Fatalf("%+v, put as %q, is read as %+v, %d, %d", x, b, y, next, code)
	}
	return y.State
}

// One behind the other, wherever they stand.
func TestReadAsPut(t *testing.T) {
	for _, ahead := range []string{"", "\x00", "\xff\xff\xff\xff\xff\xff\xff\xff\xff"} {
		b := []byte(ahead)
		for i, s := range rightStates() {
			one, code := snap.Put(again(t, s))
			two, codeSnap := snap.PutSnap(behind(i, i+1, i+2, s))
			if code != api.OK || codeSnap != api.OK {
				t.Fatalf("%+v is put with codes %d and %d", s, code, codeSnap)
			}
			b = append(append(b, one...), two...)
		}
		at := len(ahead)
		for i, want := range rightStates() {
			s, next, code := snap.Get(b, at)
			x, behindIt, codeSnap := snap.GetSnap(b, next)
			if !same(s, want) || code != api.OK || !sameSnap(x, behind(i, i+1, i+2, want)) || codeSnap != api.OK {
				t.Fatalf("%+v is read at %d as %+v, %d and %+v, %d", want, at, s, code, x, codeSnap)
			}
			at = behindIt
		}
		if at != len(b) {
			t.Errorf("what was put ends at %d of %d bytes", at, len(b))
		}
	}
}

// There are no two ways to write the same: what is read is put as it was read.
func TestPutAsRead(t *testing.T) {
	read := 0
	try := func(b []byte) {
		if s, next, code := snap.Get(b, 0); code == api.OK {
			read++
			if put, code := snap.Put(s); string(put) != string(b[:next]) || code != api.OK {
				t.Fatalf("%q is read as %+v, which is put as %q, %d", b[:next], s, put, code)
			}
		}
		if x, next, code := snap.GetSnap(b, 0); code == api.OK {
			read++
			if put, code := snap.PutSnap(x); string(put) != string(b[:next]) || code != api.OK {
				t.Fatalf("%q is read as %+v, which is put as %q, %d", b[:next], x, put, code)
			}
		}
	}
	eachText(try)
	noise(try)
	if read == 0 {
		t.Error("nothing was read")
	}
}

// Two states that are not the same are not put as the same bytes.
func TestOthersArePutAsOthers(t *testing.T) {
	put := map[string]state{}
	for _, s := range rightStates() {
		b, _ := snap.Put(s)
		if other, ok := put[string(b)]; ok && !same(s, other) {
			t.Errorf("%+v and %+v are put as %q", s, other, b)
		}
		put[string(b)] = s
	}
}

// A state to which much is done: whenever it is put and read on the way, it
// goes on as if it had not been.
func TestStatesGoOnAsPut(t *testing.T) {
	names := []string{"a", "b", "b-2", twelve, "z"}
	for seed := range int64(20) {
		r := rand.New(rand.NewSource(seed))
		var s, put state
		for step := range 400 {
			if r.Intn(6) == 0 {
				time := s.Time + r.Intn(20)
				s, put = auto.Advance(s, time, 40), auto.Advance(put, time, 40)
			}
			client := r.Intn(8)
			c := api.Cmd{Kind: []int{api.Open, api.Open, api.Keep, api.Take, api.Take, api.Take, api.Try, api.Free, api.Close}[r.Intn(9)]}
			if c.Kind != api.Open {
				c.Session = numOf(s, client)
			}
			if c.Kind == api.Take || c.Kind == api.Try || c.Kind == api.Free {
				c.Name = names[r.Intn(len(names))]
			}
			req := api.Req{Client: client, Seq: step + 1, Cmd: c}
			s, _, _ = auto.Apply(s, req)
			put, _, _ = auto.Apply(again(t, put), req)
			if !same(s, put) {
				t.Fatalf("seed %d, step %d: %+v and %+v", seed, step, s, put)
			}
		}
		if len(s.Memos) < 8 {
			t.Errorf("seed %d: little was done: %+v", seed, s)
		}
	}
}

// numOf returns the number of a client's session, or 1 if it has none.
func numOf(s state, client int) int {
	for _, x := range s.Sessions {
		if x.Client == client {
			return x.Num
		}
	}
	return 1
}
