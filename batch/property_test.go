package batch_test

import (
	"math/rand"
	"testing"

	"padlock/api"
	"padlock/batch"
)

// 12.3: what is well-formed is read as it was put

// One behind the other, wherever they stand.
func TestReadAsPut(t *testing.T) {
	for _, ahead := range []string{"", "\x00", "\x01", "\xff\xff\xff\xff\xff\xff\xff\xff\xff"} {
		b := []byte(ahead)
		for _, x := range wellFormed() {
			put, code := batch.Put(x)
			if code != api.OK {
				t.Fatalf("%+v is put with code %d", x, code)
			}
			b = append(b, put...)
		}
		at := len(ahead)
		for _, want := range wellFormed() {
			got, next, code := batch.Get(b, at)
			if !same(got, want) || !batch.Same(got, want) || code != api.OK {
				t.Fatalf("%+v is read at %d as %+v, %d, %d", want, at, got, next, code)
			}
			at = next
		}
		if at != len(b) {
			t.Errorf("what was put ends at %d of %d bytes", at, len(b))
		}
	}
}

// anyBatch returns a well-formed batch.
func anyBatch(r *rand.Rand) api.Batch {
	if r.Intn(8) == 0 {
		return api.Batch{Fill: true}
	}
	num := func(least int) int { return least + int(r.Uint64()%(api.High-1))>>r.Intn(62) }
	b := api.Batch{View: num(0), Tip: tip(num(0), num(0)), Time: num(0)}
	for _, client := range r.Perm(8)[:r.Intn(4)] {
		c := api.Cmd{Kind: 1 + r.Intn(6)}
		if c.Kind != api.Open {
			c.Session = num(1)
		}
		if c.Kind >= api.Take && c.Kind <= api.Free {
			name := make([]byte, 1+r.Intn(12))
			for i := range name {
				name[i] = "az09-"[r.Intn(5)]
			}
			c.Name = string(name)
		}
		b.Reqs = append(b.Reqs, api.Req{Client: client, Seq: num(1), Cmd: c})
	}
	return b
}

func TestAnyIsReadAsPut(t *testing.T) {
	r := rand.New(rand.NewSource(12))
	for range 20000 {
		b := anyBatch(r)
		wantMay(t, b, true)
		wantGet(t, text(b), 0, b, len(text(b)), api.OK)
		wantGet(t, "\x01"+text(b)+"\x00", 1, b, 1+len(text(b)), api.OK)
	}
}

// There are no two ways to write the same: what is read is put as it was read.
func TestPutAsRead(t *testing.T) {
	read := 0
	try := func(b []byte) {
		x, next, code := batch.Get(b, 0)
		if code != api.OK {
			return
		}
		read++
		if put, code := batch.Put(x); string(put) != string(b[:next]) || code != api.OK || !batch.May(x) {
			t.Fatalf("%q is read as %+v, which is put as %q, %d", b[:next], x, put, code)
		}
	}
	eachText(try)
	noise(try)
	if read == 0 {
		t.Error("nothing was read")
	}
}

// Two batches that are not the same are not put as the same bytes.
func TestOthersArePutAsOthers(t *testing.T) {
	put := map[string]api.Batch{}
	for _, x := range wellFormed() {
		b, _ := batch.Put(x)
		if other, ok := put[string(b)]; ok && !same(x, other) {
			t.Errorf("%+v and %+v are put as %q", x, other, b)
		}
		put[string(b)] = x
	}
}

// 12.3: a walk in two parts

// lastValid returns the index of the last batch that is valid, or -1: a batch
// is if it is no Fill, and its Tip names the last one before it that is.
func lastValid(start api.Tip, slot int, bs []api.Batch) int {
	for i := len(bs) - 1; i >= 0; i-- {
		name := start
		if before := lastValid(start, slot, bs[:i]); before >= 0 {
			name = tip(bs[before].View, slot+before)
		}
		if !bs[i].Fill && bs[i].Tip == name {
			return i
		}
	}
	return -1
}

// modelWalk looks for the valid batches from behind.
func modelWalk(start api.Tip, time, slot int, bs []api.Batch) (api.Tip, int) {
	for i, b := range bs {
		if lastValid(start, slot, bs[:i+1]) == i {
			time = max(time, b.Time)
		}
	}
	if last := lastValid(start, slot, bs); last >= 0 {
		return tip(bs[last].View, slot+last), time
	}
	return start, time
}

// wantCut cuts a walk in two at each place: the second part begins where the
// first one ended.
func wantCut(t *testing.T, start api.Tip, time, slot int, bs []api.Batch) {
	t.Helper()
	want, wantTime := batch.Walk(start, time, slot, bs...)
	for n := range len(bs) + 1 {
		middle, at := batch.Walk(start, time, slot, bs[:n]...)
		wantWalk(t, middle, at, slot+n, bs[n:], want, wantTime)
	}
}

// All rows of up to four batches from a few, from each of a few tips.
func TestWalkOfAllShortRows(t *testing.T) {
	few := []api.Batch{
		{Fill: true},
		{Fill: true, Tip: tip(1, 5)},
		on(tip(0, 0), 1, 30),
		on(tip(1, 5), 1, 10, keep(1)),
		on(tip(1, 5), 2, 70),
		on(tip(1, 6), 2, 50),
		on(tip(2, 6), 2, 60),
		on(tip(2, 7), 1, 20, keep(3), keep(0)),
	}
	var try func(bs []api.Batch)
	try = func(bs []api.Batch) {
		for _, start := range []api.Tip{tip(0, 0), tip(1, 5), tip(2, 6), tip(1, 0)} {
			for _, slot := range []int{4, 5} {
				want, wantTime := modelWalk(start, 25, slot, bs)
				wantWalk(t, start, 25, slot, bs, want, wantTime)
				wantCut(t, start, 25, slot, bs)
			}
		}
		if len(bs) == 4 {
			return
		}
		for _, b := range few {
			try(append(bs[:len(bs):len(bs)], b))
		}
	}
	try(nil)
}

func TestWalkInTwo(t *testing.T) {
	for n := range len(row()) + 1 {
		wantCut(t, tip(1, 3), 9, 4, row()[:n])
		wantCut(t, tip(1, 3), 25, 4, row()[:n])
		wantCut(t, tip(0, 3), 9, 4, row()[:n])
		wantCut(t, tip(1, 3), 9, 0, row()[:n])
		wantCut(t, tip(1, 3), 9, api.High-n, row()[:n])
	}
	wantCut(t, tip(1, 3), 9, 4, nil)
	wantCut(t, tip(1, 3), -9, 4, []api.Batch{{}, {Fill: true}})
}

// Long rows of which most batches are valid, as a leader makes them, and others
// are not.
func TestWalkOfLongRows(t *testing.T) {
	for seed := range int64(50) {
		r := rand.New(rand.NewSource(seed))
		start, time, slot := tip(r.Intn(5), r.Intn(5)), r.Intn(100), 5+r.Intn(100)
		at, latest, valid := start, time, 0
		var bs []api.Batch
		for i := range 200 {
			b := on(at, r.Intn(9), r.Intn(1000))
			switch r.Intn(6) {
			case 0:
				b.Fill = true
			case 1:
				b.Tip.Slot--
			case 2:
				b.Tip.View++
			default:
				at, latest = tip(b.View, slot+i), max(latest, b.Time)
				valid++
			}
			bs = append(bs, b)
		}
		wantWalk(t, start, time, slot, bs, at, latest)
		wantCut(t, start, time, slot, bs)
		if valid < 50 {
			t.Errorf("seed %d: %d batches are valid", seed, valid)
		}
	}
}
