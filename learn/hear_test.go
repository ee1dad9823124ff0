package learn_test

import (
	"slices"
	"testing"

	"padlock/api"
	"padlock/learn"
)

// 15.1: Hear

// ending is a number that Hear is handed, and how it ends if all else is right.
// With a ballot below least it ends with ErrOld.
type ending struct {
	v     int
	code  api.Errno
	least int
}

func endings(code api.Errno, vs ...int) []ending {
	var all []ending
	for _, v := range vs {
		all = append(all, ending{v: v, code: code})
	}
	return all
}

// ended returns how Hear ends with a batch that may be.
func ended(from, in, at ending) api.Errno {
	switch {
	case from.code == api.ErrArg || in.code == api.ErrArg || at.code == api.ErrArg:
		return api.ErrArg
	case at.code != api.OK:
		return at.code
	case in.v < at.least:
		return api.ErrOld
	}
	return api.OK
}

// with returns the votes behind a vote that is heard.
func with(vs []votes, from, ballot, slot int, b api.Batch) []votes {
	all := []votes{heard(slot, ballot, b, from)}
	for _, v := range vs {
		switch {
		case v.slot != slot:
			all = append(all, v)
		case v.ballot == ballot:
			all[0].b = v.b
			all[0].who = append(all[0].who, v.who...)
		}
	}
	slices.Sort(all[0].who)
	all[0].who = slices.Compact(all[0].who)
	return all
}

// Each replica with each ballot, each slot and each batch, so that each two
// errors come at once that can. Behind an error all is as it was.
func TestHear(t *testing.T) {
	const n, done = 5, 400
	vs := []votes{
		heard(done+2, 300, given(1), 0, 2, 4), // chosen
		heard(done+4, 300, given(2), 1, 3),
		heard(done+5, 0, fill(), 0),
		heard(done+9, api.High, full(), 4),
	}
	froms := slices.Concat(
		endings(api.ErrArg, slices.Concat(below, []int{5, 6, 7, 8, 256}, above)...),
		endings(api.OK, 0, 1, 4),
	)
	ballots := slices.Concat(
		endings(api.ErrArg, slices.Concat(below, above)...),
		endings(api.OK, 0, 44, 299, 300, 301, 1<<40, api.High-1, api.High),
	)
	slots := slices.Concat(
		endings(api.ErrArg, slices.Concat(below, []int{0}, above)...),
		endings(api.ErrOld, 1, 2, done-256, done-5, done-1, done, done+2),
		endings(api.OK, done+1, done+3, done+5, done+8),
		[]ending{{done + 4, api.OK, 300}, {done + 9, api.OK, api.High}},
		endings(api.ErrFull, done+10, done+11, done+13, done+18, done+256, 1<<40, api.High-1, api.High),
	)
	spoilt := made(t, n, done, vs...)
	for _, from := range froms {
		for _, in := range ballots {
			for _, at := range slots {
				tryHear(t, n, done, vs, from.v, in.v, at.v, ended(from, in, at))
				for _, b := range notWellFormed() {
					wantHear(t, spoilt, from.v, in.v, at.v, b, api.ErrArg)
				}
			}
		}
	}
	wantTold(t, spoilt, n, done, vs...)
}

// tryHear hands each batch to a learner with this Done and these votes, and
// looks at all that it tells then.
func tryHear(t *testing.T, n, done int, vs []votes, from, ballot, slot int, want api.Errno) {
	t.Helper()
	l := made(t, n, done, vs...)
	for _, b := range wellFormed() {
		wantHear(t, l, from, ballot, slot, b, want)
		if want == api.OK {
			wantTold(t, l, n, done, with(vs, from, ballot, slot, b)...)
			l = made(t, n, done, vs...)
		}
	}
	wantTold(t, l, n, done, vs...)
}

// A batch that may not be is not taken, whatever else is handed in with it, and
// nothing changes by it.
func TestHearOfNoBatch(t *testing.T) {
	vs := []votes{heard(6, 3, given(1), 0, 1), heard(7, 3, given(2), 2)}
	for _, b := range notWellFormed() {
		l := made(t, 3, 4, vs...)
		for _, slot := range []int{0, 4, 5, 6, 7, 13, 14} {
			for _, ballot := range []int{2, 3, 4} {
				wantHear(t, l, 0, ballot, slot, b, api.ErrArg)
			}
		}
		wantTold(t, l, 3, 4, vs...)
	}
}

// How many replicas there are tells which there are.
func TestHearOfEachReplica(t *testing.T) {
	for n := 1; n <= 7; n++ {
		for from := range n {
			tryHear(t, n, 0, nil, from, 3, 9, api.OK)
			tryHear(t, n, 0, nil, from, 3, 10, api.ErrFull)
		}
		for _, from := range slices.Concat(below, []int{n, n + 1, 7, 8, 256, 1 << 32}, above) {
			tryHear(t, n, 0, nil, from, 3, 9, api.ErrArg)
			tryHear(t, n, 0, nil, from, 3, 10, api.ErrArg)
		}
	}
}

// A new learner has Done 0, and no ballot is too small for it.
func TestHearOfANewOne(t *testing.T) {
	for _, ballot := range []int{0, 1, api.High} {
		for slot := 1; slot <= 9; slot++ {
			tryHear(t, 3, 0, nil, 2, ballot, slot, api.OK)
		}
		for _, slot := range []int{10, 11, 18, api.High} {
			tryHear(t, 3, 0, nil, 2, ballot, slot, api.ErrFull)
		}
		for _, slot := range []int{-9, -1, 0, api.High + 1} {
			tryHear(t, 3, 0, nil, 2, ballot, slot, api.ErrArg)
		}
	}
}

// Where Done is near High, there are fewer slots than MaxLog left.
func TestHearNearHigh(t *testing.T) {
	for left := range 21 {
		done := api.High - left
		for _, slot := range []int{1, done - 9, done - 1, done} {
			tryHear(t, 3, done, nil, 1, 3, slot, api.ErrOld)
		}
		for slot := done + 1; slot <= done+20; slot++ {
			want := api.OK
			switch {
			case slot > api.High:
				want = api.ErrArg
			case slot > done+9:
				want = api.ErrFull
			}
			tryHear(t, 3, done, nil, 1, 3, slot, want)
		}
	}
}

// What is full is so ahead of what is old by its ballot, also where a slot that
// many further back has a greater ballot; and what is done with is old, also
// where a slot that many further on has none.
func TestFullAndOld(t *testing.T) {
	for at := 5; at <= 13; at++ {
		open := []votes{heard(at, 9, given(1), 0)}
		chosen := []votes{heard(at, 9, given(1), 0, 1)}
		for _, vs := range [][]votes{open, chosen} {
			for _, ballot := range []int{0, 8, 9, 10} {
				tryHear(t, 3, 4, vs, 2, ballot, at+9, api.ErrFull)
				tryHear(t, 3, 4, vs, 2, ballot, at+18, api.ErrFull)
				if at > 9 {
					tryHear(t, 3, 4, vs, 2, ballot, at-9, api.ErrOld)
				}
			}
		}
		tryHear(t, 3, 4, open, 2, 8, at, api.ErrOld)
		tryHear(t, 3, 4, chosen, 2, 8, at, api.ErrOld)
	}
}

// Votes of one replica are one vote, however often they come.
func TestHearTwice(t *testing.T) {
	for n := 2; n <= 7; n++ {
		for from := range n {
			l := learn.New(n)
			for range 2 * n {
				wantHear(t, l, from, 5, 3, given(1), api.OK)
				wantTold(t, l, n, 0, heard(3, 5, given(1), from))
			}
		}
	}
	l := learn.New(5)
	for _, from := range []int{3, 1, 3, 1, 1, 3} {
		wantHear(t, l, from, 5, 3, given(1), api.OK)
	}
	wantTold(t, l, 5, 0, heard(3, 5, given(1), 1, 3))
	wantHear(t, l, 0, 5, 3, given(1), api.OK)
	wantTold(t, l, 5, 0, heard(3, 5, given(1), 0, 1, 3))
	wantHear(t, l, 3, 5, 3, given(1), api.ErrOld)
	wantTold(t, l, 5, 0, heard(3, 5, given(1), 0, 1, 3))
}

// The batch of a ballot is the one that was heard first in it, whoever tells
// of another one.
func TestHearOfAnotherBatch(t *testing.T) {
	for i, b := range wellFormed() {
		for _, other := range wellFormed() {
			l := learn.New(5)
			wantHear(t, l, 4, 5, 3, b, api.OK)
			wantHear(t, l, 4, 5, 3, other, api.OK)
			wantTold(t, l, 5, 0, heard(3, 5, b, 4))
			wantHear(t, l, 0, 5, 3, other, api.OK)
			wantHear(t, l, 2, 5, 3, given(i), api.OK)
			wantTold(t, l, 5, 0, heard(3, 5, b, 0, 2, 4))
			wantHear(t, l, 1, 5, 3, other, api.ErrOld)
			wantTold(t, l, 5, 0, heard(3, 5, b, 0, 2, 4))
		}
	}
}

// A greater ballot makes the lesser ones forgotten, their batch too; behind it,
// a lesser one is of no use.
func TestHearOfAnotherBallot(t *testing.T) {
	l := made(t, 5, 0, heard(2, 9, given(6), 0, 1), heard(4, 0, given(7), 3))
	others := []votes{heard(2, 9, given(6), 0, 1), heard(4, 0, given(7), 3)}
	now := func(v votes) {
		t.Helper()
		wantTold(t, l, 5, 0, append(slices.Clone(others), v)...)
	}
	wantHear(t, l, 1, 0, 3, given(1), api.OK)
	now(heard(3, 0, given(1), 1))
	wantHear(t, l, 0, 0, 3, given(1), api.OK)
	now(heard(3, 0, given(1), 0, 1))
	wantHear(t, l, 2, 1, 3, given(2), api.OK)
	now(heard(3, 1, given(2), 2))
	wantHear(t, l, 3, 0, 3, given(1), api.ErrOld)
	now(heard(3, 1, given(2), 2))
	wantHear(t, l, 2, 4, 3, given(3), api.OK)
	now(heard(3, 4, given(3), 2))
	wantHear(t, l, 3, 3, 3, given(4), api.ErrOld)
	wantHear(t, l, 3, 4, 3, given(4), api.OK)
	now(heard(3, 4, given(3), 2, 3))
	wantHear(t, l, 3, api.High, 3, fill(), api.OK)
	now(heard(3, api.High, fill(), 3))
	wantHear(t, l, 2, api.High-1, 3, given(3), api.ErrOld)
	wantHear(t, l, 4, api.High, 3, fill(), api.OK)
	wantHear(t, l, 1, api.High, 3, fill(), api.OK)
	now(heard(3, api.High, fill(), 1, 3, 4))
}

// Each batch behind each in a greater ballot.
func TestHearOfAnotherBatchInAGreaterBallot(t *testing.T) {
	for _, old := range wellFormed() {
		for _, b := range wellFormed() {
			l := learn.New(3)
			wantHear(t, l, 1, 3, 8, old, api.OK)
			wantHear(t, l, 1, 4, 8, b, api.OK)
			wantTold(t, l, 3, 0, heard(8, 4, b, 1))
			wantHear(t, l, 0, 3, 8, old, api.ErrOld)
			wantHear(t, l, 0, 4, 8, old, api.OK)
			wantTold(t, l, 3, 0, heard(8, 4, b, 0, 1))
		}
	}
}

// Votes of two ballots don't add up: neither has a quorum by itself.
func TestHearOfTwoBallots(t *testing.T) {
	for n := 2; n <= 7; n++ {
		for few := 1; few < needed[n]; few++ {
			for more := 1; more < needed[n]; more++ {
				wantTwoBallots(t, n, few, more)
			}
		}
	}
}

// wantTwoBallots lets the first few vote in one ballot, and the last ones, more
// of them, in the next.
func wantTwoBallots(t *testing.T, n, few, more int) {
	t.Helper()
	l := learn.New(n)
	var first, last []int
	for from := range few {
		wantHear(t, l, from, 6, 1, given(1), api.OK)
		first = append(first, from)
		wantTold(t, l, n, 0, heard(1, 6, given(1), first...))
	}
	for from := n - more; from < n; from++ {
		wantHear(t, l, from, 7, 1, given(1), api.OK)
		last = append(last, from)
		wantTold(t, l, n, 0, heard(1, 7, given(1), last...))
	}
	for from := range n {
		wantHear(t, l, from, 6, 1, given(1), api.ErrOld)
		wantTold(t, l, n, 0, heard(1, 7, given(1), last...))
	}
}

// Of a slot whose batch is chosen nothing more is heard, in no ballot, of no
// replica and of no batch; of the others it is.
func TestHearOfWhatIsChosen(t *testing.T) {
	for n := 1; n <= 7; n++ {
		var who []int
		for from := n - needed[n]; from < n; from++ {
			who = append(who, from)
		}
		v := heard(2, 5, given(1), who...)
		for from := range n {
			for _, ballot := range []int{0, 4, 5, 6, api.High} {
				tryHear(t, n, 0, []votes{v}, from, ballot, 2, api.ErrOld)
				tryHear(t, n, 0, []votes{v}, from, ballot, 1, api.OK)
				tryHear(t, n, 0, []votes{v}, from, ballot, 3, api.OK)
			}
		}
	}
}
