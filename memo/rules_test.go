package memo_test

import (
	"maps"
	"math"
	"slices"
	"testing"

	"padlock/api"
	"padlock/memo"
)

// rightLists returns lists of each length. Each call makes them anew.
func rightLists() []list {
	all := []list{
		nil,
		{},
		{plain(0, 1)},
		{plain(7, api.High)},
		{said(2, 6, 0)},
		{said(3, 4, 4)},
		{said(1, 5, 1), said(4, 5, 2)},
		{said(2, 5, 4), plain(3, 9)},
		{plain(0, 9), said(7, 1, 4)},
		three(),
		{plain(2, 3), said(3, 2, 2), plain(5, 1)},
	}
	for n := 1; n <= 8; n++ {
		all = append(all, rising(n))
	}
	return all
}

// wrongLists returns lists that are not right, of many lengths.
func wrongLists() []list {
	all := []list{
		{{}},
		{said(2, 1, 1), said(2, 2, 2)},
		{said(2, 2, 1), said(2, 1, 2), said(2, 3, 3)},
		{said(4, 2, 1), said(2, 1, 2), said(4, 3, 3)},
		{said(7, 2, 1), said(5, 1, 2), said(2, 3, 3), said(0, 9, 4)},
		{plain(-1, 0), plain(8, api.High+1)},
		{plain(math.MinInt, math.MinInt), plain(math.MaxInt, math.MaxInt)},
		append(rising(8), rising(8)...),
		make(list, 100),
	}
	for _, r := range badReplies() {
		all = append(all, list{said(1, 2, 4), {Client: 3, Seq: 5, Reply: r}})
	}
	return all
}

// someMemos returns what is kept: of each client, with numbers of all kinds
// and replies that are well-formed and that are not.
func someMemos() list {
	clients := []int{math.MinInt, -1, 0, 1, 2, 3, 4, 5, 6, 7, 8, math.MaxInt}
	seqs := []int{-1, 0, 1, 2, 3, 4, 5, 6, 13, 33, 34, 1000, api.High - 1, api.High, api.High + 1}
	bad := badReplies()
	var all list
	for _, client := range clients {
		for i, seq := range seqs {
			all = append(all, plain(client, seq), said(client, seq, 4))
			all = append(all, api.Memo{Client: client, Seq: seq, Reply: bad[(client&7+i)%len(bad)]})
		}
	}
	return all
}

// told is all that a call returns: a memo is a list of one.
type told struct {
	l  list
	n  int
	ok bool
}

func (a told) equals(b told) bool {
	return same(a.l, b.l) && a.n == b.n && a.ok == b.ok
}

func (a told) copy() told {
	return told{copyOf(a.l), a.n, a.ok}
}

func copyOf(l list) (all list) {
	for _, m := range l {
		m.Reply.Held = slices.Clone(m.Reply.Held)
		all = append(all, m)
	}
	return all
}

// eachCall calls f with calls of all kinds.
func eachCall(f func(call func(l list) told)) {
	f(func(l list) told { return told{ok: memo.Right(l)} })
	clients := append([]int{0, 1, 2, 3, 4, 5, 6, 7}, noClients...)
	seqs := append([]int{1, 2, 5, 13, 1000, api.High}, noSeqs...)
	for _, client := range clients {
		f(func(l list) told { m, ok := memo.Last(l, client); return told{l: list{m}, ok: ok} })
		for _, seq := range seqs {
			f(func(l list) told { return told{n: memo.Fresh(l, client, seq)} })
		}
	}
	for _, m := range someMemos() {
		f(func(l list) told { return told{l: memo.Keep(l, api.Answer(m))} })
	}
}

// The models say what the chapter says in another way than the package does:
// of right lists, as a table that is asked by client.

func byClient(l list) map[int]api.Memo {
	all := map[int]api.Memo{}
	for _, m := range l {
		all[m.Client] = m
	}
	return all
}

func inOrder(all map[int]api.Memo) (l list) {
	for _, client := range slices.Sorted(maps.Keys(all)) {
		l = append(l, all[client])
	}
	return l
}

// mayReply says what chapter 5 says of replies, by the fields that are wrong
// in badReplies.
func mayReply(r api.Reply) bool {
	ok := r.Code >= 0 && r.Code <= 12 && r.Session >= 0 && r.Session <= api.High && r.Ahead >= 0 && r.Ahead <= 3
	ok = ok && len(r.Held) <= 4 && (r.Session > 0 || len(r.Held) == 0)
	for i, g := range r.Held {
		ok = ok && len(g.Name) >= 1 && len(g.Name) <= 12 && g.Token >= 1 && g.Token <= api.High
		for _, c := range []byte(g.Name) {
			ok = ok && (c >= 'a' && c <= 'z' || c >= '0' && c <= '9' || c == '-')
		}
		ok = ok && (i == 0 || r.Held[i-1].Name < g.Name)
	}
	return ok
}

func modelFresh(l list, client, seq int) int {
	// Without a memo, what was before is less than all numbers.
	m, has := byClient(l)[client]
	switch {
	case !has || seq > m.Seq:
		return 1
	case seq < m.Seq:
		return -1
	}
	return 0
}

func modelKeep(l list, m api.Memo) list {
	all := byClient(l)
	may := m.Client >= 0 && m.Client < 8 && m.Seq >= 1 && m.Seq <= api.High && mayReply(m.Reply)
	if may && m.Seq > all[m.Client].Seq {
		all[m.Client] = m
	}
	return inOrder(all)
}

func TestCallsAsModel(t *testing.T) {
	for _, l := range rightLists() {
		wantRight(t, l, true)
		for _, client := range append([]int{0, 1, 2, 3, 4, 5, 6, 7}, noClients...) {
			m, has := byClient(l)[client]
			wantLast(t, l, client, m, has)
			for _, seq := range append([]int{1, 2, 3, 4, 5, 6, 13, 1000, api.High}, noSeqs...) {
				wantFresh(t, l, client, seq, modelFresh(l, client, seq))
			}
		}
		for _, m := range someMemos() {
			wantKeep(t, l, m, modelKeep(l, m))
		}
		for _, r := range append(goodReplies(), badReplies()...) {
			for client := range 8 {
				m := api.Memo{Client: client, Seq: 2000, Reply: r}
				wantKeep(t, l, m, modelKeep(l, m))
			}
		}
	}
}

// What is right stays right, whatever is kept.
func TestListsStayRight(t *testing.T) {
	for _, l := range rightLists() {
		for _, m := range someMemos() {
			wantRight(t, memo.Keep(l, api.Answer(m)), true)
		}
	}
}

// R1: lists that are not right make no call panic, nor do arguments that may not be.
func TestWrongArguments(t *testing.T) {
	for _, l := range append(wrongLists(), rightLists()...) {
		eachCall(func(call func(l list) told) { call(l) })
	}
	for _, l := range wrongLists() {
		wantRight(t, l, false)
	}
	long := make(list, 1<<16)
	wantRight(t, long, false)
	memo.Fresh(long, 1, 1)
	memo.Last(long, 0)
	memo.Last(long, 1)
	memo.Keep(long, api.Answer(plain(0, 1)))
	memo.Keep(long, api.Answer(plain(1, 1)))
	much := api.Answer{Client: 1, Seq: 1, Reply: api.Reply{Session: 1, Held: make([]api.Grant, 1<<16)}}
	memo.Keep(long, much)
	wantKeep(t, three(), api.Memo(much), three())
	wantRight(t, list{api.Memo(much)}, false)
}

// R1: what is told hangs on the arguments alone, and of a list on its elements.
func TestSameArgumentsSameResults(t *testing.T) {
	for _, l := range append(rightLists(), wrongLists()...) {
		roomy := append(make(list, 0, len(l)+9), copyOf(l)...)
		for i, m := range roomy {
			roomy[i].Reply.Held = append(make([]api.Grant, 0, len(m.Reply.Held)+9), m.Reply.Held...)
		}
		eachCall(func(call func(l list) told) {
			first, second, third := call(l), call(slices.Clip(l)), call(roomy)
			if !first.equals(second) || !first.equals(third) {
				t.Errorf("of the same list %v a call tells %v, %v and %v", l, first, second, third)
			}
		})
	}
}

// R3: a nil list and an empty one are the same, and so are a nil Held and an
// empty one, in a list and in what is kept.
func TestNilAndEmpty(t *testing.T) {
	filled := func(l list, held []api.Grant) list {
		l = copyOf(l)
		for i := range l {
			if len(l[i].Reply.Held) == 0 {
				l[i].Reply.Held = held
			}
		}
		return l
	}
	eachCall(func(call func(l list) told) {
		if first, second := call(nil), call(list{}); !first.equals(second) {
			t.Errorf("of a nil list a call tells %v, of an empty one %v", first, second)
		}
		for _, l := range rightLists() {
			if first, second := call(filled(l, nil)), call(filled(l, []api.Grant{})); !first.equals(second) {
				t.Errorf("of %v a call tells %v with a nil Held, and %v with an empty one", l, first, second)
			}
		}
	})
	for _, l := range rightLists() {
		for client := range 8 {
			for _, seq := range []int{1, 5, 1000} {
				m := plain(client, seq)
				want := memo.Keep(l, api.Answer(m))
				m.Reply.Held = []api.Grant{}
				wantKeep(t, l, m, want)
			}
		}
	}
}

// R3: beside false, the memo is zero in each of its fields.
func TestNoLastIsZero(t *testing.T) {
	for _, l := range rightLists() {
		for _, client := range append([]int{0, 1, 2, 3, 4, 5, 6, 7}, noClients...) {
			m, ok := memo.Last(l, client)
			if _, has := byClient(l)[client]; ok != has {
				t.Errorf("Last(%v, %d) tells %v", l, client, ok)
			}
			if !ok && (m.Client != 0 || m.Seq != 0 || m.Reply.Code != 0 || m.Reply.Session != 0 || m.Reply.Ahead != 0 || len(m.Reply.Held) != 0) {
				t.Errorf("Last(%v, %d) = %v beside false", l, client, m)
			}
		}
	}
}

// behind returns a list in memory that goes on behind its end, as that of what
// each of its replies holds does: these lie in one piece of memory one behind
// the other.
func behind(l list) (whole list, held []api.Grant) {
	whole = append(copyOf(l), said(-1, -1, 2), said(9, 9, 3))
	for _, m := range whole {
		held = append(append(held, m.Reply.Held...), api.Grant{Name: "z", Token: 5})
	}
	at := 0
	for i, m := range whole {
		whole[i].Reply.Held = held[at : at+len(m.Reply.Held)]
		at += len(m.Reply.Held) + 1
	}
	return whole, held
}

// R4, R5: no call changes the list that it is handed, nor what its replies
// hold, nor what lies behind their ends, whatever it tells.
func TestListsStay(t *testing.T) {
	for _, l := range append(rightLists(), wrongLists()...) {
		whole, held := behind(l)
		before, beforeHeld := copyOf(whole), slices.Clone(held)
		eachCall(func(call func(l list) told) {
			call(whole[:len(l)])
			if !same(whole, before) || !slices.Equal(held, beforeHeld) {
				t.Fatalf("a call turned %v and %v into %v and %v", before, beforeHeld, whole, held)
			}
		})
	}
}

// scrawl writes into all of l, into what its replies hold, and into their
// spare capacity.
func scrawl(l list) {
	all := l[:cap(l)]
	for i, m := range all {
		scrawlHeld(m.Reply.Held)
		all[i] = said(-7, -7, 1)
	}
}

func scrawlHeld(held []api.Grant) {
	all := held[:cap(held)]
	for i := range all {
		all[i] = api.Grant{Name: "-7", Token: -7}
	}
}

// R4: whoever writes into the list that was handed in, or into what its
// replies hold, or behind their ends, changes no result.
func TestListsAreNotRetained(t *testing.T) {
	for _, l := range append(rightLists(), wrongLists()...) {
		eachCall(func(call func(l list) told) {
			whole, held := behind(l)
			got := call(whole[:len(l)])
			want := got.copy()
			scrawlHeld(held)
			scrawl(whole)
			if !got.equals(want) {
				t.Errorf("writing into %v turned the result from %v into %v", l, want, got)
			}
		})
	}
}

// R4: whoever writes into a result, into what its replies hold, and into their
// spare capacity, changes neither the list that was handed in nor any other
// result.
func TestResultsAreNewMemory(t *testing.T) {
	for _, l := range append(rightLists(), wrongLists()...) {
		eachCall(func(call func(l list) told) {
			whole, held := behind(l)
			before, beforeHeld := copyOf(whole), slices.Clone(held)
			mine := whole[:len(l)]
			first, second := call(mine), call(mine)
			want := second.copy()
			scrawl(first.l)
			scrawl(second.l[len(second.l):])
			if !second.equals(want) {
				t.Errorf("writing into the first result turned the second from %v into %v", want, second)
			}
			if !same(whole, before) || !slices.Equal(held, beforeHeld) {
				t.Errorf("writing into a result turned %v into %v", before, whole)
			}
			if third := call(mine); !third.equals(want) {
				t.Errorf("writing into the first result turned the third from %v into %v", want, third)
			}
		})
	}
}

// R4: an answer that is not kept leaves l as it is: still the result is new
// memory.
func TestWhatIsReturnedUnchangedIsNew(t *testing.T) {
	for _, l := range rightLists() {
		for _, m := range append(list{{}, plain(8, 1), plain(-1, 1)}, l...) {
			whole, held := behind(l)
			before, beforeHeld := copyOf(whole), slices.Clone(held)
			got := memo.Keep(whole[:len(l)], api.Answer(m))
			if !same(got, l) {
				t.Errorf("Keep(%v, %v) = %v", l, m, got)
			}
			scrawl(got)
			if !same(whole, before) || !slices.Equal(held, beforeHeld) {
				t.Errorf("writing into the result of Keep of %v turned %v into %v", m, before, whole)
			}
		}
	}
}

// R4: what is kept is not changed, nor what lies behind what it holds, and it
// is not retained.
func TestKeptAnswersAreNotRetained(t *testing.T) {
	for _, l := range rightLists() {
		for _, m := range someMemos() {
			held := append(slices.Clone(m.Reply.Held), grants("x", "y")...)
			before := slices.Clone(held)
			m.Reply.Held = held[:len(held)-2]
			got := memo.Keep(l, api.Answer(m))
			want := copyOf(got)
			if !slices.Equal(held, before) {
				t.Errorf("Keep of %v turned what it holds into %v", before, held)
			}
			scrawlHeld(held)
			if !same(got, want) {
				t.Errorf("writing into what was kept turned the result from %v into %v", want, got)
			}
			copy(held, before)
			scrawl(got)
			if !slices.Equal(held, before) {
				t.Errorf("writing into a result turned what was kept from %v into %v", before, held)
			}
		}
	}
}

// R4: no two replies of a result share what they hold, be it behind its end,
// even if all that were handed in do.
func TestRepliesOfResultsAreApart(t *testing.T) {
	shared := append(make([]api.Grant, 0, 9), grants("a", "b", "c", "d")...)
	for n := range 8 {
		l := rising(n)
		for i := range l {
			l[i].Reply = api.Reply{Session: 1, Held: shared[:1+i%4]}
		}
		for client := range 8 {
			for locks := range 5 {
				m := api.Memo{Client: client, Seq: 1000, Reply: api.Reply{Session: 1, Held: shared[:locks]}}
				wantApart(t, l, m)
				m.Seq = 1
				wantApart(t, l, m)
			}
		}
	}
	if !slices.Equal(shared, grants("a", "b", "c", "d")) {
		t.Errorf("writing into results turned what all replies held into %v", shared)
	}
}

// wantApart writes into what each reply of the result of a Keep holds, each in
// a result of its own.
func wantApart(t *testing.T, l list, m api.Memo) {
	t.Helper()
	want := memo.Keep(l, api.Answer(m))
	for i := range want {
		got := memo.Keep(l, api.Answer(m))
		scrawlHeld(got[i].Reply.Held)
		for j := range got {
			if j != i && !same(got[j:j+1], want[j:j+1]) {
				t.Errorf("writing into what memo %d of Keep(%v, %v) holds turned memo %d into %v", i, l, m, j, got[j])
			}
		}
	}
}

// R4: two answers of one client without a memo, kept with one list that has
// room behind its end: neither result has the other's.
func TestOneListIsKeptTwice(t *testing.T) {
	roomy := append(make(list, 0, 20), three()...)
	for client := range 8 {
		for other := range 8 {
			first := memo.Keep(roomy, api.Answer(said(client, api.High, 3)))
			want := modelKeep(three(), said(client, api.High, 3))
			second := memo.Keep(roomy, api.Answer(said(other, api.High, 2)))
			if !same(first, want) || !same(second, modelKeep(three(), said(other, api.High, 2))) {
				t.Errorf("one list, with %d and with %d, is %v and %v", client, other, first, second)
			}
		}
	}
}
