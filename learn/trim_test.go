package learn_test

import (
	"slices"
	"testing"

	"padlock/api"
	"padlock/learn"
)

// 15.2: Trim and Done

// some are votes for slots with gaps between them, behind a Done of 4. Of 5
// replicas, two batches are chosen.
func some() []votes {
	return []votes{
		heard(5, 3, given(5), 0, 4),
		heard(6, 1, fill(), 1, 2, 3),
		heard(8, 7, given(8), 4),
		heard(11, 7, full(), 0, 1, 4),
		heard(13, 0, given(3), 2),
	}
}

// behind returns the votes for slots greater than done.
func behind(done int, vs []votes) []votes {
	return slices.DeleteFunc(slices.Clone(vs), func(v votes) bool { return v.slot <= done })
}

func TestTrim(t *testing.T) {
	for _, done := range []int{5, 6, 7, 8, 9, 10, 11, 12, 13, 14, 15, 22, 23, 256 + 4, 1 << 40, api.High - 9, api.High - 1, api.High} {
		l := made(t, 5, 4, some()...)
		l.Trim(done)
		wantTold(t, l, 5, done, behind(done, some())...)
	}
	l := made(t, 5, 4, some()...)
	l.Trim(8)
	wantTold(t, l, 5, 8, some()[3], some()[4])
	l = made(t, 5, 4, some()...)
	l.Trim(13)
	wantTold(t, l, 5, 13)
}

func TestTrimOfNothing(t *testing.T) {
	for _, done := range slices.Concat(below, []int{0, 1, 3, 4}, above) {
		l := made(t, 5, 4, some()...)
		l.Trim(done)
		wantTold(t, l, 5, 4, some()...)
	}
	for _, done := range slices.Concat(below, []int{0}, above) {
		l := learn.New(3)
		l.Trim(done)
		wantTold(t, l, 3, 0)
		wantHear(t, l, 1, 0, 1, given(1), api.OK)
		wantHear(t, l, 1, 0, 9, given(9), api.OK)
		wantHear(t, l, 1, 0, 10, given(9), api.ErrFull)
		l.Trim(done)
		wantTold(t, l, 3, 0, heard(1, 0, given(1), 1), heard(9, 0, given(9), 1))
	}
}

// Without any votes, Done is what it was set to.
func TestTrimOfNoVotes(t *testing.T) {
	for _, done := range []int{1, 4, 9, 10, 1 << 40, api.High - 1, api.High} {
		l := learn.New(3)
		l.Trim(done)
		wantTold(t, l, 3, done)
		l.Trim(done - 1)
		l.Trim(done)
		wantTold(t, l, 3, done)
	}
}

// At High there is nothing behind Done, and it stays.
func TestTrimOfAll(t *testing.T) {
	l := made(t, 5, 4, some()...)
	l.Trim(api.High)
	for _, done := range slices.Concat(below, []int{0, 5, api.High - 1, api.High}, above) {
		l.Trim(done)
		wantTold(t, l, 5, api.High)
	}
	wantHear(t, l, 0, 9, api.High, given(1), api.ErrOld)
	wantHear(t, l, 0, 9, api.High+1, given(1), api.ErrArg)
	wantTold(t, l, 5, api.High)
}

// Trims in a row: what is gone doesn't come back.
func TestTrimsInARow(t *testing.T) {
	l := made(t, 5, 4, some()...)
	for _, c := range []struct{ done, want int }{{4, 4}, {5, 5}, {1, 5}, {api.High + 1, 5}, {6, 6}, {5, 6}, {9, 9}, {4, 9}, {-1, 9}, {12, 12}, {12, 12}, {0, 12}, {13, 13}, {40, 40}, {13, 40}} {
		l.Trim(c.done)
		wantTold(t, l, 5, c.want, behind(c.want, some())...)
	}
}

// Behind Trim, what was heard goes on where it was: ballots, batches, who voted,
// and what is chosen.
func TestHearBehindTrim(t *testing.T) {
	l := made(t, 5, 4, some()...)
	l.Trim(7)
	now := behind(7, some())
	for _, c := range []struct {
		from, ballot, slot int
		want               api.Errno
	}{
		{0, 9, 5, api.ErrOld},
		{0, 9, 6, api.ErrOld},
		{0, 9, 7, api.ErrOld},
		{0, 6, 8, api.ErrOld},
		{0, 7, 8, api.OK},
		{2, 7, 8, api.OK},
		{1, 7, 8, api.ErrOld}, // chosen by now
		{2, 9, 11, api.ErrOld},
		{4, 0, 13, api.OK},
		{4, 1, 13, api.OK},
		{1, 0, 13, api.ErrOld},
		{1, 0, 14, api.OK},
		{1, 0, 16, api.OK},
		{1, 9, 17, api.ErrFull},
		{1, 0, 17, api.ErrFull},
	} {
		wantHear(t, l, c.from, c.ballot, c.slot, given(1), c.want)
		if c.want == api.OK {
			now = with(now, c.from, c.ballot, c.slot, given(1))
		}
		wantTold(t, l, 5, 7, now...)
	}
}

// Trim makes room for as many slots as it goes on by: for these, and no more,
// is something heard then, each for its own slot, with nothing of those that
// were there before: a lesser ballot, another batch and none of their votes.
func TestRoomBehindTrim(t *testing.T) {
	for first := range 19 {
		for by := 1; by <= 12; by++ {
			var vs []votes
			for slot := first + 1; slot <= first+9; slot++ {
				vs = append(vs, heard(slot, 9, given(slot), []int{0, 2}[:1+slot%2]...))
			}
			l := made(t, 3, first, vs...)
			done := first + by
			l.Trim(done)
			vs = behind(done, vs)
			wantTold(t, l, 3, done, vs...)
			wantHear(t, l, 1, 9, done, given(1), api.ErrOld)
			wantHear(t, l, 1, 9, done+10, given(1), api.ErrFull)
			wantTold(t, l, 3, done, vs...)
			for slot := done + 9; slot > max(done, first+9); slot-- {
				wantHear(t, l, 1, 2, slot, given(slot+1), api.OK)
				vs = append(vs, heard(slot, 2, given(slot+1), 1))
				wantTold(t, l, 3, done, vs...)
			}
		}
	}
}
