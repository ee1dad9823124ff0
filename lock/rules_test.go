package lock_test

import (
	"math"
	"slices"
	"strings"
	"testing"

	"padlock/api"
	"padlock/lock"
)

// eachLine returns all lines that are right. Each call makes them anew.
func eachLine() []row {
	all := []row{nil, {}}
	for a := range 8 {
		all = append(all, row{a})
		for b := range 8 {
			if b == a {
				continue
			}
			all = append(all, row{a, b})
			for c := range 8 {
				if c != a && c != b {
					all = append(all, row{a, b, c})
				}
			}
		}
	}
	return all
}

// rightLists returns lists of each length. Each call makes them anew.
func rightLists() []list {
	return []list{
		nil,
		{},
		{held("a", 0, 1)},
		{held("b", 7, 9, 0)},
		{held("d", 2, 4, 7, 0, 5)},
		{held("abcdefghijkl", 1, 9, 2, 3)},
		{held("b", 1, 9, 2), held("d", 2, 8, 1)},
		{held("b", 1, 8, 2, 3, 4), held("d", 1, 9, 2, 3, 4)},
		{held("-", 3, 1), held("b", 3, 2), held("z", 3, 3)},
		three(),
		rising(3),
		rising(4),
		four(),
		{held("a", 4, 9, 1, 2, 3), held("b", 4, 8, 2, 3, 1), held("c", 4, 7, 3, 1, 2), held("d", 4, 6, 3, 2, 1)},
	}
}

// manyLists returns, beside these, a lock of each holder with each line: alone,
// and of one holder beside another lock of its.
func manyLists() []list {
	all := rightLists()
	for holder := range 8 {
		for _, line := range eachLine() {
			if slices.Contains(line, holder) {
				continue
			}
			all = append(all, list{held("b", holder, 5, line...)})
			if holder == 3 {
				all = append(all, list{held("b", 3, 5, line...), held("d", 3, 9, 1, 2)})
			}
		}
	}
	return all
}

// wrongLists returns lists that are not right, of many lengths.
func wrongLists() []list {
	long := rising(9)
	for i := range long {
		long[i].Line = make(row, 20)
	}
	return []list{
		{{}},
		{held("", -1, 0, -1)},
		{held("Door", 8, api.High+1, 8, 8)},
		{held("b", 1, 9, 1)},
		{held("b", 1, 9, 4, 4, 1, 1)},
		{held("b", 1, 9, 4, 5, 6, 7)},
		{held("b", 1, 9, 4), held("b", 1, 9, 4)},
		{held("d", 1, 9, 4), held("b", 1, 9, 4)},
		{held("b", 1, 9, 4), held("b", 4, 8, 1), held("b", 2, 7)},
		{held("f", math.MinInt, math.MaxInt, math.MinInt), held("b", math.MaxInt, math.MinInt, math.MaxInt)},
		rising(5),
		long,
		make(list, 100),
	}
}

// Arguments of all kinds.
func someTokens() row { return row{9, 10, 1 << 32, api.High - 5, api.High - 4} }

func someClients() row { return append(row{0, 1, 2, 3, 4, 5, 6, 7}, noClients...) }

func someNames() []string {
	return append([]string{"a", "b", "c", "d", "f", "g", "-", "z", "b-", "abcdefghijkl", "zzzzzzzzzzzz"}, noNames...)
}

// someGone returns lists of who is gone: none, one, some, all, who is no
// client, and the same one twice.
func someGone() []row {
	all := []row{nil, {}, {4}, {1, 1}, {7, 6, 5, 4, 3, 2, 1, 0}, {3, -1, 8, 0, 3}, noClients}
	for bits := range 1 << 8 {
		var gone row
		for client := range 8 {
			if bits>>client&1 == 1 {
				gone = append(gone, client)
			}
		}
		all = append(all, gone)
	}
	return all
}

// told is all that a call returns: grants are locks without a line, and what
// is true is the code 1.
type told struct {
	l    list
	n    int
	code api.Errno
}

func (a told) equals(b told) bool {
	return same(a.l, b.l) && a.n == b.n && a.code == b.code
}

func (a told) copy() told {
	return told{copyOf(a.l), a.n, a.code}
}

func truth(ok bool) api.Errno {
	if ok {
		return 1
	}
	return 0
}

func ofGrants(grants []api.Grant) (l list) {
	for _, g := range grants {
		l = append(l, api.Lock{Name: g.Name, Token: g.Token})
	}
	return l
}

// eachCallOf calls f with each call on a list that these arguments make.
func eachCallOf(names []string, clients, tokens row, gone []row, f func(call func(l list) told)) {
	f(func(l list) told { return told{code: truth(lock.Right(l))} })
	for _, name := range names {
		f(func(l list) told { k, ok := lock.Find(l, name); return told{list{k}, 0, truth(ok)} })
		for _, client := range clients {
			for _, token := range tokens {
				f(func(l list) told { x, n, code := lock.Take(l, name, client, token, false); return told{x, n, code} })
				f(func(l list) told { x, n, code := lock.Take(l, name, client, token, true); return told{x, n, code} })
				f(func(l list) told { x, n, code := lock.Free(l, name, client, token); return told{x, n, code} })
			}
		}
	}
	for _, client := range clients {
		f(func(l list) told { return told{l: ofGrants(lock.Held(l, client))} })
	}
	for _, left := range gone {
		for _, token := range tokens {
			f(func(l list) told { x, n := lock.Drop(l, left, token); return told{x, n, 0} })
		}
	}
}

// eachCall calls f with calls that are promised something of right lists.
func eachCall(f func(call func(l list) told)) {
	gone := []row{nil, {4}, {1, 1}, {2, 4}, {1, 4}, {3, 0}, {7, 6, 5, 4, 3, 2, 1, 0}}
	eachCallOf([]string{"a", "b", "c", "d", "f", "z"}, row{0, 1, 2, 3, 4, 7}, row{9}, gone, f)
}

// eachWrongCall calls f with calls of which nothing is promised but R1 and R4.
func eachWrongCall(f func(call func(l list) told)) {
	clients := row{math.MinInt, -1, 1, 8, math.MaxInt}
	tokens := row{math.MinInt, -1, 0, 3, api.High, math.MaxInt - 1, math.MaxInt}
	eachCallOf(append([]string{"b", "d"}, noNames...), clients, tokens, []row{nil, {1, 4}, noClients}, f)
}

// The models say what the chapter says in another way than the package does:
// of right lists, where the holder of a lock is the first of those who came
// for it, and how many tokens were given follows from who is the first now.

type came struct {
	token int
	all   row // the holder, and behind it who wait
}

func byName(l list) map[string]came {
	all := map[string]came{}
	for _, k := range l {
		all[k.Name] = came{k.Token, append(row{k.Holder}, k.Line...)}
	}
	return all
}

func inOrder(all map[string]came) (l list) {
	for name, k := range all {
		l = append(l, held(name, k.all[0], k.token, k.all[1:]...))
	}
	slices.SortFunc(l, func(a, b api.Lock) int { return strings.Compare(a.Name, b.Name) })
	return l
}

func modelTake(l list, name string, client, token int, wait bool) told {
	all := byName(l)
	k, has := all[name]
	at := slices.Index(k.all, client)
	switch {
	case !has && len(all) == 4:
		return told{code: api.ErrFull}
	case !has:
		all[name] = came{token + 1, row{client}}
		return told{l: inOrder(all)}
	case at == 0:
		return told{code: api.ErrTwice}
	case !wait:
		return told{code: api.ErrBusy}
	case at > 0:
		return told{inOrder(all), at - 1, api.ErrWait}
	case len(k.all) == 4:
		return told{code: api.ErrFull}
	}
	all[name] = came{k.token, append(k.all, client)}
	return told{inOrder(all), len(k.all) - 1, api.ErrWait}
}

// leave lets clients go from one lock, and tells whether that gave a token.
func leave(all map[string]came, name string, gone row, token int) int {
	k := all[name]
	var rest row
	for _, client := range k.all {
		if !slices.Contains(gone, client) {
			rest = append(rest, client)
		}
	}
	switch {
	case len(rest) == 0:
		delete(all, name)
		return 0
	case rest[0] == k.all[0]:
		all[name] = came{k.token, rest}
		return 0
	}
	all[name] = came{token + 1, rest}
	return 1
}

func modelFree(l list, name string, client, token int) told {
	all := byName(l)
	if !slices.Contains(all[name].all, client) {
		return told{code: api.ErrNone}
	}
	n := leave(all, name, row{client}, token)
	return told{l: inOrder(all), n: n}
}

func modelDrop(l list, gone row, token int) (list, int) {
	all, n := byName(l), 0
	for _, k := range l {
		n += leave(all, k.Name, gone, token+n)
	}
	return inOrder(all), n
}

func modelHeld(l list, client int) (grants []api.Grant) {
	for _, k := range inOrder(byName(l)) {
		if k.Holder == client {
			grants = append(grants, api.Grant{Name: k.Name, Token: k.Token})
		}
	}
	return grants
}

func wantTakeAsModel(t *testing.T, l list, name string, client, token int, wait bool) {
	t.Helper()
	want := modelTake(l, name, client, token, wait)
	wantTake(t, l, name, client, token, wait, want.l, want.n, want.code)
}

func wantFreeAsModel(t *testing.T, l list, name string, client, token int) {
	t.Helper()
	want := modelFree(l, name, client, token)
	if want.code == api.OK {
		wantFree(t, l, name, client, token, want.l, want.n)
	} else {
		wantNoFree(t, l, name, client, token)
	}
}

// R2, R3: of right lists, the first case that applies, beside whose error all
// else is zero.
func TestCallsAsModel(t *testing.T) {
	for _, l := range manyLists() {
		wantRight(t, l, true)
		for _, name := range []string{"a", "b", "c", "d", "z"} {
			for client := range 8 {
				wantTakeAsModel(t, l, name, client, 9, true)
				wantTakeAsModel(t, l, name, client, 9, false)
				wantFreeAsModel(t, l, name, client, 9)
			}
		}
		for client := range 8 {
			wantHeld(t, l, client, modelHeld(l, client)...)
		}
		for _, gone := range []row{{0}, {7, 1}, {3, 3, 2}, {6, 5, 4, 3, 2}, {-1, 8, 1, 0}} {
			want, n := modelDrop(l, gone, 9)
			wantDrop(t, l, gone, 9, want, n)
		}
	}
}

// The same of fewer lists, with more tokens, names and clients that are gone.
func TestCallsOfMuchAsModel(t *testing.T) {
	for _, l := range rightLists() {
		for _, token := range someTokens() {
			for _, name := range someNames() {
				for client := range 8 {
					wantTakeAsModel(t, l, name, client, token, true)
					wantTakeAsModel(t, l, name, client, token, false)
					wantFreeAsModel(t, l, name, client, token)
				}
			}
			for _, gone := range someGone() {
				want, n := modelDrop(l, gone, token)
				wantDrop(t, l, gone, token, want, n)
			}
		}
		for _, name := range someNames() {
			at := slices.IndexFunc(l, func(k api.Lock) bool { return k.Name == name })
			if at < 0 {
				wantFind(t, l, name, api.Lock{}, false)
			} else {
				wantFind(t, l, name, l[at], true)
			}
		}
		for _, client := range noClients {
			wantHeld(t, l, client)
		}
	}
}

// What is right stays right, whatever is done to it.
func TestListsStayRight(t *testing.T) {
	for _, l := range manyLists() {
		for _, name := range []string{"a", "b", "d", "z"} {
			for client := range 8 {
				more, _, _ := lock.Take(l, name, client, 9, true)
				wantRight(t, more, true)
				less, _, _ := lock.Free(l, name, client, 9)
				wantRight(t, less, true)
			}
		}
	}
	for _, l := range rightLists() {
		for _, gone := range someGone() {
			rest, _ := lock.Drop(l, gone, 9)
			wantRight(t, rest, true)
		}
	}
}

// R1: lists that are not right make no call panic, nor do arguments that may not be.
func TestWrongArguments(t *testing.T) {
	for _, l := range append(wrongLists(), rightLists()...) {
		eachCall(func(call func(l list) told) { call(l) })
		eachWrongCall(func(call func(l list) told) { call(l) })
	}
	for _, l := range wrongLists() {
		wantRight(t, l, false)
	}
	long := make(list, 1<<16)
	wantRight(t, long, false)
	lock.Find(long, "a")
	lock.Take(long, "a", 1, 1, true)
	lock.Take(long, "", 1, 1, true)
	lock.Free(long, "", 0, 1)
	lock.Drop(long, row{0}, 1)
	lock.Held(long, 0)
	lock.Drop(three(), make(row, 1<<16), 9)
}

// R1: what is told hangs on the arguments alone, and of a list on its elements.
func TestSameArgumentsSameResults(t *testing.T) {
	for _, l := range append(rightLists(), wrongLists()...) {
		roomy := append(make(list, 0, len(l)+9), copyOf(l)...)
		for i := range roomy {
			roomy[i].Line = append(make(row, 0, 9), roomy[i].Line...)
		}
		eachCall(func(call func(l list) told) {
			first, second, third := call(l), call(slices.Clip(l)), call(roomy)
			if !first.equals(second) || !first.equals(third) {
				t.Errorf("of the same list %v a call tells %v, %v and %v", l, first, second, third)
			}
		})
	}
}

// R3: a nil list and an empty one are the same, and so are nil and empty lines
// and lists of who is gone.
func TestNilAndEmpty(t *testing.T) {
	filled := func(l list, line row) list {
		l = copyOf(l)
		for i := range l {
			if len(l[i].Line) == 0 {
				l[i].Line = line
			}
		}
		return l
	}
	eachCall(func(call func(l list) told) {
		if first, second := call(nil), call(list{}); !first.equals(second) {
			t.Errorf("of a nil list a call tells %v, of an empty one %v", first, second)
		}
		for _, l := range rightLists() {
			if first, second := call(filled(l, nil)), call(filled(l, row{})); !first.equals(second) {
				t.Errorf("of %v a call tells %v with nil lines, and %v with empty ones", l, first, second)
			}
		}
	})
	for _, l := range rightLists() {
		wantDrop(t, l, nil, 9, l, 0)
		wantDrop(t, l, row{}, 9, l, 0)
	}
}

// behind returns a list in memory that goes on behind its end, as that of each
// of its lines does, which lie in one piece of memory one behind the other.
func behind(l list) (whole list, lines row) {
	whole = append(copyOf(l), held("x", -1, -1, 5, 5), held("b", 9, 9, 9))
	for _, k := range whole {
		lines = append(lines, append(slices.Clone(k.Line), 5)...)
	}
	at := 0
	for i, k := range whole {
		whole[i].Line = lines[at : at+len(k.Line)]
		at += len(k.Line) + 1
	}
	return whole, lines
}

// R4, R5: no call changes the list that it is handed, nor its lines, nor what
// lies behind their ends, whatever the code is.
func TestListsStay(t *testing.T) {
	for _, l := range append(rightLists(), wrongLists()...) {
		whole, lines := behind(l)
		before, beforeLines := copyOf(whole), slices.Clone(lines)
		eachCall(func(call func(l list) told) { call(whole[:len(l)]) })
		eachWrongCall(func(call func(l list) told) { call(whole[:len(l)]) })
		if !same(whole, before) || !slices.Equal(lines, beforeLines) {
			t.Errorf("calls turned %v and the lines %v into %v and %v", before, beforeLines, whole, lines)
		}
	}
}

// R4: the same of who is gone, who are not retained either.
func TestGoneStay(t *testing.T) {
	for _, l := range rightLists() {
		for _, gone := range someGone() {
			whole := append(slices.Clone(gone), 5, -1, 9, 0, 5)
			before := slices.Clone(whole)
			got, _ := lock.Drop(l, whole[:len(gone)], 9)
			want := copyOf(got)
			if !slices.Equal(whole, before) {
				t.Errorf("Drop turned who is gone from %v into %v", before, whole)
			}
			for i := range whole {
				whole[i] = -7
			}
			if !same(got, want) {
				t.Errorf("writing into %v turned the result from %v into %v", gone, want, got)
			}
			clear(whole)
			scrawl(got)
			if slices.ContainsFunc(whole, func(v int) bool { return v != 0 }) {
				t.Errorf("writing into a result turned who is gone, %v", gone)
			}
		}
	}
}

// scrawl writes into all of l and its lines, and into their spare capacity.
func scrawl(l list) {
	all := l[:cap(l)]
	for i, k := range all {
		scrawlLine(k.Line)
		all[i] = held("-7", -7, -7, -7)
	}
}

func scrawlLine(line row) {
	for i := range line[:cap(line)] {
		line[:cap(line)][i] = -7
	}
}

// R4: whoever writes into the list that was handed in, or into its lines, or
// behind their ends, changes no result.
func TestListsAreNotRetained(t *testing.T) {
	for _, l := range append(rightLists(), wrongLists()...) {
		eachCall(func(call func(l list) told) {
			whole, lines := behind(l)
			got := call(whole[:len(l)])
			want := got.copy()
			scrawlLine(lines)
			scrawl(whole)
			if !got.equals(want) {
				t.Errorf("writing into %v turned the result from %v into %v", l, want, got)
			}
		})
	}
}

// R4: whoever writes into a result, into its lines, and into their spare
// capacity, changes neither the list that was handed in nor any other result.
func TestResultsAreNewMemory(t *testing.T) {
	for _, l := range append(rightLists(), wrongLists()...) {
		eachCall(func(call func(l list) told) {
			whole, lines := behind(l)
			before, beforeLines := copyOf(whole), slices.Clone(lines)
			mine := whole[:len(l)]
			first, second := call(mine), call(mine)
			want := second.copy()
			scrawl(first.l)
			scrawl(second.l[len(second.l):])
			if !second.equals(want) {
				t.Errorf("writing into the first result turned the second from %v into %v", want, second)
			}
			if !same(whole, before) || !slices.Equal(lines, beforeLines) {
				t.Errorf("writing into a result turned %v into %v", before, whole)
			}
			if third := call(mine); !third.equals(want) {
				t.Errorf("writing into the first result turned the third from %v into %v", want, third)
			}
		})
	}
}

// R4: the same of what is held.
func TestHeldIsNewMemory(t *testing.T) {
	for _, l := range rightLists() {
		for client := range 8 {
			first, second := lock.Held(l, client), lock.Held(l, client)
			want := slices.Clone(second)
			for _, grants := range [][]api.Grant{first, second[len(second):]} {
				for i := range grants[:cap(grants)] {
					grants[:cap(grants)][i] = api.Grant{Name: "-7", Token: -7}
				}
			}
			if third := lock.Held(l, client); !slices.Equal(second, want) || !slices.Equal(third, want) {
				t.Errorf("writing into the first result turned %v into %v and %v", want, second, third)
			}
		}
	}
}

// R4: no two lines of a result share memory, be it behind their ends, even if
// all lines that were handed in do.
func TestLinesOfResultsAreApart(t *testing.T) {
	for _, l := range rightLists() {
		eachCall(func(call func(l list) told) {
			whole, _ := behind(l)
			size := len(call(whole[:len(l)]).l)
			for i := range size {
				got := call(whole[:len(l)])
				want := got.copy()
				scrawlLine(got.l[i].Line)
				want.l[i].Line = slices.Clone(got.l[i].Line)
				if !got.equals(want) {
					t.Errorf("writing into the line of lock %d turned %v into %v", i, want, got)
				}
			}
		})
	}
}

// R4: a lock for which two come in turn, of one list: neither result has the other's client.
func TestOneListIsTakenTwice(t *testing.T) {
	roomy := list{held("a", 1, 1), held("b", 1, 2, 2, 3)}
	for i := range roomy {
		roomy[i].Line = append(make(row, 0, 9), roomy[i].Line...)
	}
	for at, name := range []string{"a", "b"} {
		first, _, _ := lock.Take(roomy, name, 6, 2, true)
		second, _, _ := lock.Take(roomy, name, 5, 2, true)
		before := roomy[at].Line
		if !slices.Equal(first[at].Line, append(slices.Clone(before), 6)) || !slices.Equal(second[at].Line, append(slices.Clone(before), 5)) {
			t.Errorf("%v, taken by 6 and by 5, is %v and %v", roomy, first, second)
		}
	}
}
