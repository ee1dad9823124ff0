package accept_test

import (
	"slices"
	"testing"

	"padlock/accept"
	"padlock/api"
)

// 14.1: Accept

// ending is a ballot or a slot, and how Accept ends if all else is right.
type ending struct {
	v    int
	code api.Errno
}

func endings(code api.Errno, vs ...int) []ending {
	var all []ending
	for _, v := range vs {
		all = append(all, ending{v, code})
	}
	return all
}

// first returns the code that Accept names first.
func first(codes ...api.Errno) api.Errno {
	for _, code := range []api.Errno{api.ErrArg, api.ErrOld, api.ErrFull} {
		if slices.Contains(codes, code) {
			return code
		}
	}
	return api.OK
}

// Each ballot with each slot and each batch, so that each two errors come at
// once that can. Behind an error all is as it was.
func TestAccept(t *testing.T) {
	const ballot, done = 300, 400
	votes := []api.Vote{vote(done+2, 3, given(1)), vote(done+4, ballot, fill()), vote(done+9, 0, given(2))}
	ballots := slices.Concat(
		endings(api.ErrArg, slices.Concat(below, above)...),
		endings(api.ErrOld, 0, 1, ballot-256, ballot-1),
		endings(api.OK, ballot, ballot+1, 1<<40, api.High-1, api.High),
	)
	slots := slices.Concat(
		endings(api.ErrArg, slices.Concat(below, []int{0}, above)...),
		endings(api.ErrOld, 1, 2, done-256, done-1, done),
		endings(api.OK, done+1, done+2, done+5, done+8, done+9),
		endings(api.ErrFull, done+10, done+11, done+18, done+256, 1<<40, api.High-1, api.High),
	)
	for _, in := range ballots {
		for _, at := range slots {
			for _, b := range wellFormed() {
				tryAccept(t, made(t, ballot, done, votes...), in.v, at.v, b, first(in.code, at.code))
			}
			a := made(t, ballot, done, votes...)
			for _, b := range notWellFormed() {
				tryAccept(t, a, in.v, at.v, b, api.ErrArg)
			}
		}
	}
}

// tryAccept hands b to a, and looks at all that it tells then.
func tryAccept(t *testing.T, a *accept.Acceptor, ballot, slot int, b api.Batch, want api.Errno) {
	t.Helper()
	before, done, votes := a.Ballot(), a.Done(), a.Votes()
	wantAccept(t, a, ballot, slot, b, want)
	if want != api.OK {
		wantTold(t, a, before, done, votes...)
		return
	}
	wantTold(t, a, ballot, done, with(votes, vote(slot, ballot, b))...)
}

// with returns the votes with v in place of one for its slot.
func with(votes []api.Vote, v api.Vote) []api.Vote {
	var all []api.Vote
	for _, w := range votes {
		if w.Slot < v.Slot {
			all = append(all, w)
		}
	}
	all = append(all, v)
	for _, w := range votes {
		if w.Slot > v.Slot {
			all = append(all, w)
		}
	}
	return all
}

// A new acceptor has Ballot 0 and Done 0.
func TestAcceptOfANewOne(t *testing.T) {
	for _, b := range wellFormed() {
		for _, ballot := range []int{0, 1, api.High} {
			for _, slot := range []int{1, 5, 9} {
				tryAccept(t, accept.New(), ballot, slot, b, api.OK)
			}
			for _, slot := range []int{-9, -1, 0, api.High + 1} {
				tryAccept(t, accept.New(), ballot, slot, b, api.ErrArg)
			}
			for _, slot := range []int{10, 11, 18, api.High} {
				tryAccept(t, accept.New(), ballot, slot, b, api.ErrFull)
			}
		}
	}
	tryAccept(t, accept.New(), -1, 1, fill(), api.ErrArg)
	tryAccept(t, accept.New(), -1, 10, fill(), api.ErrArg)
	a := accept.New()
	wantPromise(t, a, 3, api.OK)
	tryAccept(t, a, 2, 1, fill(), api.ErrOld)
	tryAccept(t, a, 2, 10, fill(), api.ErrOld)
	tryAccept(t, a, 2, 0, fill(), api.ErrArg)
}

// Where Done is near High, there are fewer slots than MaxLog left.
func TestAcceptNearHigh(t *testing.T) {
	for left := range 21 {
		done := api.High - left
		for _, slot := range []int{done - 1, done, 1} {
			tryAccept(t, made(t, 3, done), 3, slot, given(1), api.ErrOld)
		}
		for slot := done + 1; slot <= done+20; slot++ {
			want := api.OK
			switch {
			case slot > api.High:
				want = api.ErrArg
			case slot > done+9:
				want = api.ErrFull
			}
			tryAccept(t, made(t, 3, done), 3, slot, given(1), want)
		}
	}
}

// What ballot is old hangs on the promises and on the votes for any slot.
func TestAcceptRaisesTheBallot(t *testing.T) {
	a := accept.New()
	tryAccept(t, a, 5, 9, fill(), api.OK)
	tryAccept(t, a, 4, 1, given(1), api.ErrOld)
	wantPromise(t, a, 4, api.ErrOld)
	tryAccept(t, a, 6, 2, given(2), api.OK)
	tryAccept(t, a, 5, 9, given(3), api.ErrOld)
	wantPromise(t, a, 8, api.OK)
	tryAccept(t, a, 7, 3, given(4), api.ErrOld)
	tryAccept(t, a, 8, 3, given(4), api.OK)
	wantTold(t, a, 8, 0, vote(2, 6, given(2)), vote(3, 8, given(4)), vote(9, 5, fill()))
}

// A slot that was voted for: each batch in place of each, in the same ballot
// and in a greater one. In a lesser one, the earlier vote stays.
func TestAcceptAgain(t *testing.T) {
	for _, old := range wellFormed() {
		for _, b := range wellFormed() {
			for _, slot := range []int{5, 8, 13} {
				others := []api.Vote{vote(4+3, 2, given(6)), vote(4+6, 1, given(7))}
				a := made(t, 3, 4, with(others, vote(slot, 3, old))...)
				tryAccept(t, a, 2, slot, b, api.ErrOld)
				tryAccept(t, a, 3, slot, b, api.OK)
				wantTold(t, a, 3, 4, with(others, vote(slot, 3, b))...)
				tryAccept(t, a, 3, slot, b, api.OK)
				tryAccept(t, a, 9, slot, old, api.OK)
				wantTold(t, a, 9, 4, with(others, vote(slot, 9, old))...)
				tryAccept(t, a, 8, slot, b, api.ErrOld)
			}
		}
	}
}

// 14.1: Votes

// MaxLog slots in all orders: one more has no room, and each has its own batch.
func TestAllOrders(t *testing.T) {
	var votes []api.Vote
	for slot := 1; slot <= 9; slot++ {
		votes = append(votes, vote(slot, 1, given(slot)))
	}
	order := slices.Clone(votes)
	var try func(at int)
	try = func(at int) {
		if at == len(order) {
			wantOrder(t, order, votes)
		}
		for i := at; i < len(order); i++ {
			order[at], order[i] = order[i], order[at]
			try(at + 1)
			order[at], order[i] = order[i], order[at]
		}
	}
	try(0)
}

// wantOrder votes in this order.
func wantOrder(t *testing.T, order, want []api.Vote) {
	t.Helper()
	a := accept.New()
	for _, v := range order {
		wantAccept(t, a, v.Ballot, v.Slot, v.Batch, api.OK)
	}
	wantAccept(t, a, 1, 10, given(1), api.ErrFull)
	if got := a.Votes(); !same(got, want) {
		t.Fatalf("the votes %+v are told as %+v", order, got)
	}
}

// Each set of slots, wherever Done is.
func TestAllSetsOfSlots(t *testing.T) {
	for _, done := range []int{0, 1, 4, 8, 9, 10, 17, 1 << 40, api.High - 9} {
		for set := range 1 << 9 {
			var votes []api.Vote
			for i := range 9 {
				if set>>i&1 == 1 {
					votes = append(votes, vote(done+1+i, 9-i, given(i)))
				}
			}
			made(t, 20, done, votes...)
		}
	}
}
