package learn_test

import (
	"slices"
	"testing"

	"padlock/api"
	"padlock/learn"
)

// 15.2: Chosen and Heard

// As many votes as are needed choose a batch, and not one less.
func TestChosen(t *testing.T) {
	for n := 1; n <= 7; n++ {
		for _, b := range wellFormed() {
			l := learn.New(n)
			var who []int
			for from := range needed[n] {
				if _, ok := l.Chosen(4); ok {
					t.Errorf("%d of %d replicas chose", from, n)
				}
				wantHear(t, l, from, 5, 4, b, api.OK)
				who = append(who, from)
				wantTold(t, l, n, 0, heard(4, 5, b, who...))
			}
			if got, ok := l.Chosen(4); !ok || !same(got, b) {
				t.Errorf("%v of %d replicas chose %+v, %v; want %+v", who, n, got, ok, b)
			}
		}
	}
}

// The example of the document, in each ballot.
func TestChosenByTwoOfThree(t *testing.T) {
	for _, ballot := range []int{0, 1, 5, api.High} {
		l := learn.New(3)
		wantHear(t, l, 0, ballot, 1, given(1), api.OK)
		wantTold(t, l, 3, 0, heard(1, ballot, given(1), 0))
		wantHear(t, l, 2, ballot, 1, given(1), api.OK)
		wantTold(t, l, 3, 0, heard(1, ballot, given(1), 0, 2))
	}
}

// Votes for one slot are no votes for another one.
func TestSlotsAreApart(t *testing.T) {
	for at := 1; at <= 9; at++ {
		for other := 1; other <= 9; other++ {
			if at == other {
				continue
			}
			l := made(t, 3, 0, heard(at, 5, given(1), 1))
			wantHear(t, l, 2, 5, other, given(1), api.OK)
			wantTold(t, l, 3, 0, heard(at, 5, given(1), 1), heard(other, 5, given(1), 2))
			wantHear(t, l, 0, 2, at, given(1), api.ErrOld)
			wantHear(t, l, 0, 7, at, given(3), api.OK)
			wantHear(t, l, 0, 5, other, given(1), api.OK)
			wantTold(t, l, 3, 0, heard(at, 7, given(3), 0), heard(other, 5, given(1), 0, 2))
		}
	}
}

// orders calls f with each order of n replicas.
func orders(n int, f func(order []int)) {
	order := make([]int, n)
	for i := range order {
		order[i] = i
	}
	var try func(at int)
	try = func(at int) {
		if at == n {
			f(order)
		}
		for i := at; i < n; i++ {
			order[at], order[i] = order[i], order[at]
			try(at + 1)
			order[at], order[i] = order[i], order[at]
		}
	}
	try(0)
}

// 15.3: each order of the votes of one ballot. The same batch is chosen, and who
// voted until then stands in ascending order.
func TestAllOrders(t *testing.T) {
	for n := 1; n <= 7; n++ {
		orders(n, func(order []int) { wantOrder(t, n, order) })
	}
}

func wantOrder(t *testing.T, n int, order []int) {
	t.Helper()
	l := learn.New(n)
	for i, from := range order {
		want := api.OK
		if i >= needed[n] {
			want = api.ErrOld
		}
		wantHear(t, l, from, 3, 5, given(1), want)
		who := slices.Sorted(slices.Values(order[:min(i+1, needed[n])]))
		wantSlot(t, l, n, 5, []votes{heard(5, 3, given(1), who...)})
	}
}

// Each order of the votes of one ballot behind some of a lesser one, with those
// of a lesser one between them.
func TestAllOrdersBehindALesserBallot(t *testing.T) {
	orders(5, func(order []int) {
		l := made(t, 5, 0, heard(5, 2, given(2), 1, 3))
		for i, from := range order[:3] {
			wantHear(t, l, from, 3, 5, given(1), api.OK)
			wantHear(t, l, order[4], 2, 5, given(2), api.ErrOld)
			who := slices.Sorted(slices.Values(order[:i+1]))
			wantSlot(t, l, 5, 5, []votes{heard(5, 3, given(1), who...)})
		}
	})
}

// Of slots for which nothing was heard nothing is told, wherever Done is.
func TestToldOfNothing(t *testing.T) {
	for _, done := range []int{0, 1, 4, 9, 10, 1 << 40, api.High - 9, api.High - 1, api.High} {
		for n := 1; n <= 7; n++ {
			wantTold(t, made(t, n, done), n, done)
		}
	}
}

// Each set of slots, wherever Done is: what is told of the others is nothing.
// Half of them are chosen.
func TestAllSetsOfSlots(t *testing.T) {
	for _, done := range []int{0, 1, 4, 8, 9, 10, 17, 1 << 40, api.High - 9} {
		for set := range 1 << 9 {
			var vs []votes
			for i := range 9 {
				if set>>i&1 == 1 {
					vs = append(vs, heard(done+1+i, 9-i, given(i), []int{2, 0}[:1+i%2]...))
				}
			}
			l := made(t, 3, done, vs...)
			for i := range vs {
				slices.Sort(vs[i].who)
			}
			wantTold(t, l, 3, done, vs...)
		}
	}
}

// A ballot of 0 is told as that of nothing, but who voted in it is told too.
func TestHeardInBallotZero(t *testing.T) {
	l := made(t, 7, 0, heard(3, 0, fill(), 5, 0, 6))
	ballot, who := l.Heard(3)
	if ballot != 0 || !slices.Equal(who, []int{0, 5, 6}) {
		t.Errorf("Heard(3) = %d, %v", ballot, who)
	}
	wantHear(t, l, 1, 0, 3, fill(), api.OK)
	wantTold(t, l, 7, 0, heard(3, 0, fill(), 0, 1, 5, 6))
}

// 15.3: a chosen batch stays, whatever is heard and asked.
func TestChosenStays(t *testing.T) {
	for n := 1; n <= 7; n++ {
		var who []int
		for from := range needed[n] {
			who = append(who, from)
		}
		l := made(t, n, 2, heard(5, 3, given(1), who...))
		for done := 2; done < 5; done++ {
			l.Trim(done)
			for from := range n {
				for _, ballot := range []int{0, 3, 4 + from, api.High} {
					wantHear(t, l, from, ballot, 5, given(2), api.ErrOld)
				}
				l.Hear(from, 3, 6+from, given(3))
			}
			wantSlot(t, l, n, 5, []votes{heard(5, 3, given(1), who...)})
		}
		l.Trim(5)
		wantSlot(t, l, n, 5, nil)
	}
}
