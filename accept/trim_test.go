package accept_test

import (
	"slices"
	"testing"

	"padlock/accept"
	"padlock/api"
)

// 14.1: Trim

// some are votes for slots with gaps between them, behind a Done of 4.
func some() []api.Vote {
	return []api.Vote{vote(5, 3, given(5)), vote(6, 1, fill()), vote(8, 7, given(8)), vote(11, 7, full()), vote(13, 2, given(3))}
}

// behind returns the votes for slots greater than done.
func behind(done int, votes []api.Vote) []api.Vote {
	return slices.DeleteFunc(slices.Clone(votes), func(v api.Vote) bool { return v.Slot <= done })
}

func TestTrim(t *testing.T) {
	for _, done := range []int{5, 6, 7, 8, 9, 10, 11, 12, 13, 14, 15, 22, 23, 256 + 4, 1 << 40, api.High - 9, api.High - 1, api.High} {
		a := made(t, 9, 4, some()...)
		a.Trim(done)
		wantTold(t, a, 9, done, behind(done, some())...)
	}
	a := made(t, 9, 4, some()...)
	a.Trim(8)
	wantTold(t, a, 9, 8, vote(11, 7, full()), vote(13, 2, given(3)))
	a = made(t, 9, 4, some()...)
	a.Trim(13)
	wantTold(t, a, 9, 13)
}

func TestTrimOfNothing(t *testing.T) {
	for _, done := range slices.Concat(below, []int{0, 1, 3, 4}, above) {
		a := made(t, 9, 4, some()...)
		a.Trim(done)
		wantTold(t, a, 9, 4, some()...)
	}
	for _, done := range slices.Concat(below, []int{0}, above) {
		a := accept.New()
		a.Trim(done)
		wantTold(t, a, 0, 0)
		wantAccept(t, a, 0, 1, given(1), api.OK)
		wantAccept(t, a, 0, 9, given(9), api.OK)
		wantAccept(t, a, 0, 10, given(9), api.ErrFull)
		a.Trim(done)
		wantTold(t, a, 0, 0, vote(1, 0, given(1)), vote(9, 0, given(9)))
	}
}

// Without any votes, Done is what it was set to.
func TestTrimOfNoVotes(t *testing.T) {
	for _, done := range []int{1, 4, 9, 10, 1 << 40, api.High - 1, api.High} {
		a := accept.New()
		a.Trim(done)
		wantTold(t, a, 0, done)
		a.Trim(done - 1)
		a.Trim(done)
		wantTold(t, a, 0, done)
	}
}

// At High there is nothing behind Done, and it stays.
func TestTrimOfAll(t *testing.T) {
	a := made(t, 9, 4, some()...)
	a.Trim(api.High)
	for _, done := range slices.Concat(below, []int{0, 5, api.High - 1, api.High}, above) {
		a.Trim(done)
		wantTold(t, a, 9, api.High)
	}
	wantAccept(t, a, 9, api.High, given(1), api.ErrOld)
	wantAccept(t, a, 9, api.High+1, given(1), api.ErrArg)
	wantTold(t, a, 9, api.High)
}

// Trims in a row: what is gone doesn't come back.
func TestTrimsInARow(t *testing.T) {
	a := made(t, 9, 4, some()...)
	for _, c := range []struct{ done, want int }{{4, 4}, {5, 5}, {1, 5}, {api.High + 1, 5}, {6, 6}, {5, 6}, {9, 9}, {4, 9}, {-1, 9}, {12, 12}, {12, 12}, {0, 12}, {13, 13}, {40, 40}, {13, 40}} {
		a.Trim(c.done)
		wantTold(t, a, 9, c.want, behind(c.want, some())...)
	}
}

// Trim makes room for as many slots as it goes on by: for these, and no more,
// are there votes then, each for its own slot.
func TestRoomBehindTrim(t *testing.T) {
	for first := range 19 {
		for by := 1; by <= 12; by++ {
			a := accept.New()
			a.Trim(first)
			var votes []api.Vote
			for slot := first + 1; slot <= first+9; slot++ {
				votes = append(votes, vote(slot, 1, given(slot)))
				wantAccept(t, a, 1, slot, given(slot), api.OK)
			}
			done := first + by
			a.Trim(done)
			votes = behind(done, votes)
			wantTold(t, a, 1, done, votes...)
			wantAccept(t, a, 2, done, given(1), api.ErrOld)
			wantAccept(t, a, 2, done+10, given(1), api.ErrFull)
			wantTold(t, a, 1, done, votes...)
			for slot := done + 9; slot > max(done, first+9); slot-- {
				tryAccept(t, a, 2, slot, given(slot+1), api.OK)
			}
			if len(a.Votes()) != 9 {
				t.Errorf("behind %d and %d there are %d votes", first, done, len(a.Votes()))
			}
		}
	}
}

// The Ballot and what is old by it stay, although the votes in it are gone.
func TestTrimLeavesTheBallot(t *testing.T) {
	a := accept.New()
	wantAccept(t, a, 7, 1, given(1), api.OK)
	a.Trim(1)
	wantTold(t, a, 7, 1)
	wantAccept(t, a, 6, 2, given(1), api.ErrOld)
	wantPromise(t, a, 6, api.ErrOld)
	wantTold(t, a, 7, 1)
	wantAccept(t, a, 7, 2, given(2), api.OK)
	wantTold(t, a, 7, 1, vote(2, 7, given(2)))
}
