package session_test

import (
	"cmp"
	"math"
	"slices"
	"testing"

	"padlock/api"
	"padlock/session"
)

// Numbers of all kinds, some of which the lists have.
var (
	someClients = append([]int{0, 1, 2, 3, 4, 5, 6, 7}, noClients...)
	someNums    = append([]int{1, 2, 7, 9, 11, api.High - 1, api.High}, noNums...)
	someTimes   = append([]int{0, 1, 5, 6, 20, 30, 31, api.High - 1, api.High}, noTimes...)
)

// rightLists returns lists of each length. Each call makes them anew.
func rightLists() []list {
	return []list{
		nil,
		{},
		of(2, 1, 5),
		of(0, api.High, api.High),
		of(7, 11, 0),
		of(1, 2, 6, 4, 1, 6),
		three(),
		rising(4),
		rising(5),
		of(3, api.High, 0, 4, 9, api.High, 5, 7, 30, 6, 2, 1, 7, 1, 5),
	}
}

// wrongLists returns lists that are not right, of many lengths.
func wrongLists() []list {
	return []list{
		{{}},
		of(2, 1, 5, 2, 1, 5),
		of(2, 1, 5, 2, 2, 6),
		of(5, 1, 5, 3, 2, 5, 1, 3, 5),
		of(0, 7, 5, 1, 7, 5, 2, 7, 5),
		of(-1, 1, 5, 0, 2, 5),
		of(8, 1, 5),
		of(math.MinInt, math.MinInt, math.MinInt, math.MaxInt, math.MaxInt, math.MaxInt),
		of(3, 0, -1, 4, api.High+1, api.High+1),
		rising(6),
		rising(9),
		make(list, 1000),
	}
}

// eachCall calls f with each call on a list, which tells all that it returns
// as one list: what a number or a truth tells stands in a session behind it.
func eachCall(f func(call func(l list) list)) {
	truth := func(ok bool) int {
		if ok {
			return 1
		}
		return 0
	}
	told := func(l list, v int) list { return append(slices.Clone(l), api.Session{Num: v}) }
	f(func(l list) list { return told(nil, truth(session.Right(l))) })
	for _, client := range someClients {
		f(func(l list) list { s, ok := session.Find(l, client); return told(list{s}, truth(ok)) })
		f(func(l list) list { x, code := session.Close(l, client); return told(x, int(code)) })
		for _, now := range someTimes {
			f(func(l list) list { x, code := session.Renew(l, client, now); return told(x, int(code)) })
			for _, num := range someNums {
				f(func(l list) list { x, code := session.Open(l, client, num, now); return told(x, int(code)) })
			}
		}
	}
	for _, now := range someTimes {
		for _, lease := range someTimes {
			f(func(l list) (all list) {
				for _, client := range session.Due(l, now, lease) {
					all = append(all, api.Session{Client: client})
				}
				return all
			})
		}
	}
}

// The models say what the chapter says in another way than the package does:
// of right lists, and by what a list has rather than by its order.

func byClient(l list) map[int]api.Session {
	all := map[int]api.Session{}
	for _, s := range l {
		all[s.Client] = s
	}
	return all
}

func inOrder(all map[int]api.Session) (l list) {
	for _, s := range all {
		l = append(l, s)
	}
	slices.SortFunc(l, func(a, b api.Session) int { return cmp.Compare(a.Client, b.Client) })
	return l
}

func isTime(v int) bool { return 0 <= v && v <= 1<<61 }

func modelOpen(l list, client, num, now int) (list, api.Errno) {
	all := byClient(l)
	old, has := all[client]
	for _, s := range l {
		if s.Num == num && s != old {
			return nil, api.ErrArg
		}
	}
	switch {
	case client < 0, client > 7, num < 1, num > 1<<61, !isTime(now):
		return nil, api.ErrArg
	case has:
		return nil, api.ErrTwice
	case len(all) == 5:
		return nil, api.ErrFull
	}
	all[client] = api.Session{Client: client, Num: num, Renewed: now}
	return inOrder(all), api.OK
}

func modelRenew(l list, client, now int) (list, api.Errno) {
	all := byClient(l)
	s, has := all[client]
	switch {
	case !isTime(now):
		return nil, api.ErrArg
	case !has:
		return nil, api.ErrNone
	case s.Renewed < now:
		all[client] = api.Session{Client: client, Num: s.Num, Renewed: now}
	}
	return inOrder(all), api.OK
}

func modelClose(l list, client int) (list, api.Errno) {
	all := byClient(l)
	if _, has := all[client]; !has {
		return nil, api.ErrNone
	}
	delete(all, client)
	return inOrder(all), api.OK
}

func modelDue(l list, now, lease int) (due []int) {
	if !isTime(now) || !isTime(lease) {
		return nil
	}
	for client, s := range byClient(l) {
		if s.Renewed+lease <= now {
			due = append(due, client)
		}
	}
	slices.Sort(due)
	return due
}

// R2, R3: with arguments of all kinds, the first error that applies, beside
// which all else is zero.
func TestCallsOfAnything(t *testing.T) {
	for _, l := range rightLists() {
		wantRight(t, l, true)
		all := byClient(l)
		for _, client := range someClients {
			s, has := all[client]
			wantFind(t, l, client, s, has)
			want, code := modelClose(l, client)
			wantClose(t, l, client, want, code)
			for _, now := range someTimes {
				want, code := modelRenew(l, client, now)
				wantRenew(t, l, client, now, want, code)
				for _, num := range someNums {
					want, code := modelOpen(l, client, num, now)
					wantOpen(t, l, client, num, now, want, code)
				}
			}
		}
		for _, now := range someTimes {
			for _, lease := range someTimes {
				wantDue(t, l, now, lease, modelDue(l, now, lease)...)
			}
		}
	}
}

// What is right stays right, whatever is done to it.
func TestListsStayRight(t *testing.T) {
	for _, l := range rightLists() {
		for _, client := range someClients {
			closed, _ := session.Close(l, client)
			wantRight(t, closed, true)
			for _, now := range someTimes {
				renewed, _ := session.Renew(l, client, now)
				wantRight(t, renewed, true)
				for _, num := range someNums {
					opened, _ := session.Open(l, client, num, now)
					wantRight(t, opened, true)
				}
			}
		}
	}
}

// R1: lists that are not right make no call panic, nor do long ones.
func TestWrongLists(t *testing.T) {
	for _, l := range wrongLists() {
		wantRight(t, l, false)
		eachCall(func(call func(l list) list) { call(l) })
	}
	long := make(list, 1<<16)
	wantRight(t, long, false)
	session.Find(long, 1)
	session.Open(long, 1, 1, 1)
	session.Renew(long, 0, 1)
	session.Close(long, 0)
	session.Due(long, 1, 1)
}

// R1: what is told hangs on the arguments alone, and of a list on its elements.
func TestSameArgumentsSameResults(t *testing.T) {
	for _, l := range append(rightLists(), wrongLists()...) {
		roomy := append(make(list, 0, len(l)+9), l...)
		eachCall(func(call func(l list) list) {
			first, second, third := call(l), call(slices.Clip(l)), call(roomy)
			if !slices.Equal(first, second) || !slices.Equal(first, third) {
				t.Errorf("of the same list %v a call tells %v, %v and %v", l, first, second, third)
			}
		})
	}
}

// R3: a nil list and an empty one are the same.
func TestNilAndEmptyLists(t *testing.T) {
	eachCall(func(call func(l list) list) {
		if first, second := call(nil), call(list{}); !slices.Equal(first, second) {
			t.Errorf("of a nil list a call tells %v, of an empty one %v", first, second)
		}
	})
}

// R4, R5: no call changes the list that it is handed, nor what lies behind its
// end, whatever the code is.
func TestListsStay(t *testing.T) {
	for _, l := range append(rightLists(), wrongLists()...) {
		whole := append(slices.Clone(l), of(2, -1, -1, 9, 9, 9, 0, 0, 0)...)
		before := slices.Clone(whole)
		eachCall(func(call func(l list) list) { call(whole[:len(l)]) })
		if !slices.Equal(whole, before) {
			t.Errorf("calls turned %v into %v", before, whole)
		}
	}
}

// makers returns calls on l that return a list, by what they do to it.
func makers() []func(l list) list {
	open := func(client int) func(l list) list {
		return func(l list) list { x, _ := session.Open(l, client, 50, 50); return x }
	}
	renew := func(client, now int) func(l list) list {
		return func(l list) list { x, _ := session.Renew(l, client, now); return x }
	}
	shut := func(client int) func(l list) list {
		return func(l list) list { x, _ := session.Close(l, client); return x }
	}
	var all []func(l list) list
	for client := range api.MaxClients {
		all = append(all, open(client), renew(client, 0), renew(client, api.High), shut(client))
	}
	return all
}

// scrawl writes into all of l and into its spare capacity.
func scrawl(l list) {
	all := l[:cap(l)]
	for i := range all {
		all[i] = api.Session{Client: -7, Num: -7, Renewed: -7}
	}
}

// R4: whoever writes into the list that was handed in, or behind its end,
// changes no result.
func TestListsAreNotRetained(t *testing.T) {
	for _, l := range rightLists() {
		for i, call := range makers() {
			mine := append(slices.Clone(l), of(2, -1, -1, 9, 9, 9)...)[:len(l)]
			got := call(mine)
			want := slices.Clone(got)
			scrawl(mine)
			if !slices.Equal(got, want) {
				t.Errorf("call %d: writing into %v turned the result from %v into %v", i, l, want, got)
			}
		}
	}
}

// R4: whoever writes into a result, and into its spare capacity, changes
// neither the list that was handed in nor any other result.
func TestResultsAreNewMemory(t *testing.T) {
	for _, l := range rightLists() {
		for i, call := range makers() {
			whole := append(slices.Clone(l), of(2, -1, -1, 9, 9, 9)...)
			before := slices.Clone(whole)
			mine := whole[:len(l)]
			first, second := call(mine), call(mine)
			want := slices.Clone(second)
			scrawl(first)
			scrawl(second[len(second):])
			if !slices.Equal(second, want) {
				t.Errorf("call %d: writing into the first result turned the second from %v into %v", i, want, second)
			}
			if !slices.Equal(whole, before) {
				t.Errorf("call %d: writing into a result turned the list handed in from %v into %v", i, before, whole)
			}
			if third := call(mine); !slices.Equal(third, want) {
				t.Errorf("call %d: writing into the first result turned the third from %v into %v", i, want, third)
			}
		}
	}
}

// R4: the same of the clients that are due.
func TestDueIsNewMemory(t *testing.T) {
	for _, l := range rightLists() {
		first, second := session.Due(l, api.High, 0), session.Due(l, api.High, 0)
		want := slices.Clone(second)
		if len(want) != len(l) {
			t.Errorf("of %v, %v are due", l, want)
		}
		for _, x := range [][]int{first, second[len(second):]} {
			all := x[:cap(x)]
			for i := range all {
				all[i] = -7
			}
		}
		if third := session.Due(l, api.High, 0); !slices.Equal(second, want) || !slices.Equal(third, want) {
			t.Errorf("writing into the first result turned %v into %v and %v", want, second, third)
		}
	}
}
