package snap_test

import (
	"math"
	"slices"
	"testing"

	"padlock/api"
	"padlock/snap"
)

func wantSame(t *testing.T, a, b state, want bool) {
	t.Helper()
	if got := snap.Same(a, b); got != want {
		t.Errorf("Same(%+v, %+v) = %v; want %v", a, b, got, want)
	}
	if got := snap.Same(b, a); got != want {
		t.Errorf("Same(%+v, %+v) = %v; want %v", b, a, got, want)
	}
}

// 11.2: Same

func TestSame(t *testing.T) {
	for i, s := range append(rightStates(), wrongStates()...) {
		wantSame(t, s, s, true)
		wantSame(t, s, copyOf(s), true)
		wantSame(t, s, append(rightStates(), wrongStates()...)[i], true)
	}
}

// turns are changes of busy: the states that they make are right and not right,
// and all of them differ.
func turns() []func(s *state) {
	all := []func(s *state){func(s *state) {}}
	for _, v := range []int{math.MinInt, -1, 1, 1 << 62} {
		all = append(all,
			func(s *state) { s.Time += v },
			func(s *state) { s.Num += v },
			func(s *state) { s.Token += v },
			func(s *state) { s.Memos[0].Reply.Code += api.Errno(v) },
		)
		for i := range busy().Sessions {
			all = append(all,
				func(s *state) { s.Sessions[i].Client += v },
				func(s *state) { s.Sessions[i].Num += v },
				func(s *state) { s.Sessions[i].Renewed += v },
			)
		}
		for i, k := range busy().Locks {
			all = append(all,
				func(s *state) { s.Locks[i].Holder += v },
				func(s *state) { s.Locks[i].Token += v },
			)
			for j := range k.Line {
				all = append(all, func(s *state) { s.Locks[i].Line[j] += v })
			}
		}
		for i, m := range busy().Memos {
			all = append(all,
				func(s *state) { s.Memos[i].Client += v },
				func(s *state) { s.Memos[i].Seq += v },
				func(s *state) { s.Memos[i].Reply.Session += v },
				func(s *state) { s.Memos[i].Reply.Ahead += v },
			)
			for j := range m.Reply.Held {
				all = append(all, func(s *state) { s.Memos[i].Reply.Held[j].Token += v })
			}
		}
	}
	for code := range api.ErrHalt + 1 {
		if code != api.ErrSession {
			all = append(all, func(s *state) { s.Memos[3].Reply.Code = code })
		}
	}
	return slices.Concat(all, nameTurns(), listTurns())
}

// nameTurns are changes of names.
func nameTurns() (all []func(s *state)) {
	for _, name := range []string{"", "a", "bb", "B", "b\x00", "b-2"} {
		all = append(all,
			func(s *state) { s.Locks[0].Name = name },
			func(s *state) { s.Locks[2].Name = name },
			func(s *state) { s.Memos[1].Reply.Held[0].Name = name },
			func(s *state) { s.Memos[1].Reply.Held[1].Name = name },
		)
	}
	return all
}

// listTurns are changes of how much there is, and in which order: of lists that
// begin as those of busy do, of their beginnings, and of others.
func listTurns() []func(s *state) {
	return []func(s *state){
		func(s *state) { s.Sessions = nil },
		func(s *state) { s.Sessions = s.Sessions[:1] },
		func(s *state) { s.Sessions = s.Sessions[:3] },
		func(s *state) { s.Sessions = s.Sessions[1:] },
		func(s *state) { s.Sessions = append(s.Sessions, api.Session{}) },
		func(s *state) { s.Sessions = append(s.Sessions, s.Sessions...) },
		func(s *state) { slices.Reverse(s.Sessions) },
		func(s *state) { s.Sessions[0], s.Sessions[1] = s.Sessions[1], s.Sessions[0] },
		func(s *state) { s.Locks = nil },
		func(s *state) { s.Locks = s.Locks[:1] },
		func(s *state) { s.Locks = s.Locks[:2] },
		func(s *state) { s.Locks = s.Locks[1:] },
		func(s *state) { s.Locks = append(s.Locks, api.Lock{}) },
		func(s *state) { s.Locks = append(s.Locks, s.Locks...) },
		func(s *state) { slices.Reverse(s.Locks) },
		func(s *state) { s.Locks[0].Line = nil },
		func(s *state) { s.Locks[0].Line = row{5} },
		func(s *state) { s.Locks[0].Line = row{5, 0} },
		func(s *state) { s.Locks[0].Line = row{0, 3} },
		func(s *state) { s.Locks[0].Line = row{5, 0, 3, 0} },
		func(s *state) { s.Locks[0].Line = row{3, 0, 5} },
		func(s *state) { s.Locks[0].Line = row{0, 5, 3} },
		func(s *state) { s.Locks[0].Line, s.Locks[1].Line = s.Locks[1].Line, s.Locks[0].Line },
		func(s *state) { s.Locks[1].Line = nil },
		func(s *state) { s.Locks[2].Line = row{0} },
		func(s *state) { s.Locks[2].Line = row{2} },
		func(s *state) { s.Memos = nil },
		func(s *state) { s.Memos = s.Memos[:1] },
		func(s *state) { s.Memos = s.Memos[:3] },
		func(s *state) { s.Memos = s.Memos[1:] },
		func(s *state) { s.Memos = append(s.Memos, api.Memo{}) },
		func(s *state) { s.Memos = append(s.Memos, s.Memos...) },
		func(s *state) { slices.Reverse(s.Memos) },
		func(s *state) { s.Memos[0].Reply.Held = nil },
		func(s *state) { s.Memos[1].Reply.Held = nil },
		func(s *state) { s.Memos[1].Reply.Held = s.Memos[1].Reply.Held[:1] },
		func(s *state) { s.Memos[1].Reply.Held = s.Memos[1].Reply.Held[1:] },
		func(s *state) { s.Memos[1].Reply.Held = append(s.Memos[1].Reply.Held, api.Grant{}) },
		func(s *state) { slices.Reverse(s.Memos[1].Reply.Held) },
		func(s *state) { s.Memos[3].Reply.Held = []api.Grant{{}} },
		func(s *state) { s.Memos[0].Reply, s.Memos[1].Reply = s.Memos[1].Reply, s.Memos[0].Reply },
		func(s *state) { *s = state{} },
		func(s *state) { *s = plain() },
		func(s *state) { *s = full() },
	}
}

// States that differ from busy in one thing, and so in two from each other.
func TestSameOfOthers(t *testing.T) {
	made := func() (all []state) {
		for _, turn := range turns() {
			all = append(all, turned(busy(), turn))
		}
		return all
	}
	first, second := made(), made()
	for i, a := range first {
		for j, b := range second {
			if (i == j) != same(a, b) {
				t.Fatalf("turns %d and %d make %+v and %+v", i, j, a, b)
			}
			if got := snap.Same(a, b); got != (i == j) {
				t.Errorf("turns %d and %d: Same(%+v, %+v) = %v", i, j, a, b, got)
			}
		}
	}
}

// Lists with elements that are all zero are no empty ones, whatever their
// lengths.
func TestSameOfZeros(t *testing.T) {
	zeroLists := func(sessions, locks, memos int) state {
		return state{Sessions: make([]api.Session, sessions), Locks: make([]api.Lock, locks), Memos: make([]api.Memo, memos)}
	}
	for i := range 27 {
		for j := range 27 {
			a, b := zeroLists(i/9, i/3%3, i%3), zeroLists(j/9, j/3%3, j%3)
			wantSame(t, a, b, i == j)
		}
	}
}

// R3: a nil list and an empty one are the same, in each place.
func TestSameOfNilAndEmpty(t *testing.T) {
	wantSame(t, state{}, state{Sessions: []api.Session{}}, true)
	wantSame(t, state{}, state{Locks: []api.Lock{}}, true)
	wantSame(t, state{}, state{Memos: []api.Memo{}}, true)
	for _, s := range append(rightStates(), wrongStates()...) {
		wantSame(t, copyOf(s), emptied(s), true)
		wantSame(t, emptied(s), emptied(s), true)
	}
}

// emptied returns s with empty lists in place of nil ones.
func emptied(s state) state {
	s.Sessions = append([]api.Session{}, s.Sessions...)
	s.Locks = append([]api.Lock{}, s.Locks...)
	for i, k := range s.Locks {
		s.Locks[i].Line = append(row{}, k.Line...)
	}
	s.Memos = append([]api.Memo{}, s.Memos...)
	for i, m := range s.Memos {
		s.Memos[i].Reply.Held = append([]api.Grant{}, m.Reply.Held...)
	}
	return s
}
