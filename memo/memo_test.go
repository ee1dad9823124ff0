package memo_test

import (
	"math"
	"slices"
	"strings"
	"testing"

	"padlock/api"
	"padlock/memo"
)

type list = []api.Memo

const twelve = "ab-0123456yz"

// Numbers that no client, and no request, has.
var (
	noClients = []int{math.MinInt, -256, -8, -2, -1, 8, 9, 15, 255, 256, 257, 1 << 32, api.High, math.MaxInt}
	noSeqs    = []int{math.MinInt, -api.High, -5, -1, 0, api.High + 1, 1 << 62, math.MaxInt}
)

// grants returns a list with these names, whose tokens count from 1 on.
func grants(names ...string) (held []api.Grant) {
	for i, name := range names {
		held = append(held, api.Grant{Name: name, Token: i + 1})
	}
	return held
}

// said returns a memo with a reply that tells of so many locks, each field of
// which hangs on the client or the number.
func said(client, seq, locks int) api.Memo {
	held := grants("a", "b-9", "c", twelve)[:locks]
	slices.SortFunc(held, func(a, b api.Grant) int { return strings.Compare(a.Name, b.Name) })
	for i := range held {
		held[i].Token = 10*client + i + 1
	}
	return api.Memo{Client: client, Seq: seq, Reply: api.Reply{Code: api.Errno(client % 13), Session: 100 + client, Ahead: locks % 4, Held: held}}
}

// plain returns a memo with the zero reply.
func plain(client, seq int) api.Memo {
	return api.Memo{Client: client, Seq: seq}
}

// plains returns memos of these clients, with the zero reply.
func plains(clients ...int) (l list) {
	for _, client := range clients {
		l = append(l, plain(client, 7))
	}
	return l
}

// rising returns n memos of the clients from 0 on.
func rising(n int) (l list) {
	for client := range n {
		l = append(l, said(client, 10*client+3, client%5))
	}
	return l
}

// three returns a list with room ahead of, among and behind its memos.
func three() list {
	return list{said(1, 5, 1), said(3, 1, 3), said(6, api.High, 4)}
}

// goodReplies returns replies that are well-formed.
func goodReplies() []api.Reply {
	return []api.Reply{
		{},
		{Held: []api.Grant{}},
		{Code: api.ErrHalt, Session: api.High, Ahead: 3},
		{Session: 1, Held: grants("a")},
		{Code: api.ErrWait, Session: 5, Ahead: 2, Held: grants("-", "0", "a", twelve)},
		{Session: 2, Held: []api.Grant{{Name: "a", Token: api.High}, {Name: "b", Token: api.High}}},
	}
}

// badReplies returns replies that are not well-formed, by each of their fields.
func badReplies() []api.Reply {
	all := []api.Reply{
		{Code: -1}, {Code: 13}, {Code: 256}, {Code: math.MinInt}, {Code: math.MaxInt},
		{Session: -1}, {Session: api.High + 1}, {Session: math.MinInt}, {Session: math.MaxInt},
		{Ahead: -1}, {Ahead: 4}, {Ahead: 256}, {Ahead: math.MinInt}, {Ahead: math.MaxInt},
		{Held: grants("a")}, {Held: grants("a", "b", "c", "d")},
	}
	for _, held := range [][]api.Grant{
		{{}},
		grants("a", "b", "c", "d", "e"),
		make([]api.Grant, 256),
		grants(""), grants("A"), grants("a b"), grants("a", "\x00"), grants(twelve + "9"),
		grants("a", "a"), grants("b", "a"), grants("a", "c", "b"), grants("a", "b", "d", "c"),
		{{Name: "a"}}, {{Name: "a", Token: -1}}, {{Name: "a", Token: api.High + 1}}, {{Name: "a", Token: 1}, {Name: "b"}},
	} {
		all = append(all, api.Reply{Session: 1, Held: held})
	}
	return all
}

// same reports whether a and b are equal; no list, and a list of nothing, are.
func same(a, b list) bool {
	return slices.EqualFunc(a, b, func(x, y api.Memo) bool {
		p, q := x.Reply, y.Reply
		return x.Client == y.Client && x.Seq == y.Seq && p.Code == q.Code &&
			p.Session == q.Session && p.Ahead == q.Ahead && slices.Equal(p.Held, q.Held)
	})
}

func wantRight(t *testing.T, l list, want bool) {
	t.Helper()
	if got := memo.Right(l); got != want {
		t.Errorf("Right(%v) = %v; want %v", l, got, want)
	}
}

func wantFresh(t *testing.T, l list, client, seq, want int) {
	t.Helper()
	if got := memo.Fresh(l, client, seq); got != want {
		t.Errorf("Fresh(%v, %d, %d) = %d; want %d", l, client, seq, got, want)
	}
}

func wantLast(t *testing.T, l list, client int, want api.Memo, wantOK bool) {
	t.Helper()
	if m, ok := memo.Last(l, client); !same(list{m}, list{want}) || ok != wantOK {
		t.Errorf("Last(%v, %d) = %v, %v; want %v, %v", l, client, m, ok, want, wantOK)
	}
}

// wantKeep keeps what m says as an answer.
func wantKeep(t *testing.T, l list, m api.Memo, want list) {
	t.Helper()
	if got := memo.Keep(l, api.Answer(m)); !same(got, want) {
		t.Errorf("Keep(%v, %v) = %v; want %v", l, m, got, want)
	}
}

// 9.1: Right

func TestRight(t *testing.T) {
	for _, c := range []struct {
		l    list
		want bool
	}{
		{nil, true},
		{list{}, true},
		{list{plain(0, 1)}, true},
		{list{plain(7, api.High)}, true},
		{list{said(2, 1, 4)}, true},
		{three(), true},
		{list{plain(2, 9), plain(3, 8), plain(4, 7)}, true},                          // numbers that fall
		{list{plain(2, 9), plain(3, 9)}, true},                                       // the same number
		{list{said(2, 9, 1), {Client: 3, Seq: 9, Reply: said(2, 9, 1).Reply}}, true}, // the same reply
		{list{{}}, false},                       // the zero memo has no number
		{list{plain(2, 1), plain(2, 2)}, false}, // the chapter's example
		{list{plain(2, 2), plain(2, 1)}, false},
		{list{said(2, 1, 1), said(2, 1, 1)}, false},
		{plains(2, 5, 2), false},       // the same client, apart
		{plains(0, 1, 2, 3, 0), false}, // the same client, first and last
		{plains(0, 0, 1), false},
		{plains(0, 1, 1), false},
		{plains(3, 2), false},
		{plains(0, 4, 3), false},
		{plains(2, 4, 3, 5), false},
		{plains(7, 6, 5, 4, 3, 2, 1, 0), false},
		{plains(0, 1, 2, 3, 4, 5, 6, 7, 8), false}, // client 8 is none
		{plains(-1, 0, 1), false},
	} {
		wantRight(t, c.l, c.want)
	}
}

// All rows of up to five clients, and of those that are none.
func TestRightOfEachRowOfClients(t *testing.T) {
	var walk func(row []int, ascends bool)
	walk = func(row []int, ascends bool) {
		wantRight(t, plains(row...), ascends)
		if len(row) == 5 {
			return
		}
		for client := -1; client <= 8; client++ {
			may := client >= 0 && client <= 7
			if len(row) > 0 {
				may = may && client > row[len(row)-1]
			}
			walk(append(slices.Clone(row), client), ascends && may)
		}
	}
	walk(nil, true)
}

// Each client has a memo or none.
func TestRightOfEachSetOfClients(t *testing.T) {
	for bits := range 1 << 8 {
		var l list
		for _, m := range rising(8) {
			if bits>>m.Client&1 == 1 {
				l = append(l, m)
			}
		}
		wantRight(t, l, true)
	}
	wantRight(t, make(list, 1<<16), false)
	wantRight(t, append(rising(8), make(list, 1<<16)...), false)
}

// Each field of each memo of lists of each length, at its edges and beyond.
func TestRightOfEachField(t *testing.T) {
	for n := 1; n <= 8; n++ {
		for at := range n {
			with := func(turn func(m *api.Memo)) list {
				l := rising(n)
				turn(&l[at])
				return l
			}
			for _, v := range noClients {
				// Client 8 and above would ascend at the end, those below 0 at the start.
				wantRight(t, with(func(m *api.Memo) { m.Client = v }), false)
			}
			for _, v := range noSeqs {
				wantRight(t, with(func(m *api.Memo) { m.Seq = v }), false)
			}
			for _, v := range []int{1, 2, 13, 1 << 32, api.High - 1, api.High} {
				wantRight(t, with(func(m *api.Memo) { m.Seq = v }), true)
			}
			for _, r := range badReplies() {
				wantRight(t, with(func(m *api.Memo) { m.Reply = r }), false)
			}
			for _, r := range goodReplies() {
				wantRight(t, with(func(m *api.Memo) { m.Reply = r }), true)
			}
		}
	}
}

// 9.1: Fresh

func TestConstants(t *testing.T) {
	if memo.Old != -1 || memo.Same != 0 || memo.New != 1 {
		t.Errorf("Old, Same and New are %d, %d and %d", memo.Old, memo.Same, memo.New)
	}
}

func TestFresh(t *testing.T) {
	for _, c := range []struct{ client, seq, want int }{
		{1, 4, memo.Old}, {1, 5, memo.Same}, {1, 6, memo.New},
		{1, 1, memo.Old}, {1, api.High, memo.New},
		{3, 0, memo.Old}, {3, 1, memo.Same}, {3, 2, memo.New}, {3, 5, memo.New},
		{6, 5, memo.Old}, {6, api.High - 1, memo.Old}, {6, api.High, memo.Same}, {6, api.High + 1, memo.New},
		{1, -5, memo.Old}, {1, 0, memo.Old}, {1, math.MinInt, memo.Old}, {1, math.MaxInt, memo.New},
		{6, math.MinInt, memo.Old}, {6, math.MaxInt, memo.New},
	} {
		wantFresh(t, three(), c.client, c.seq, c.want)
	}
}

// Whose client has no memo, or can't have one, is New, whatever its number is.
func TestFreshOfNone(t *testing.T) {
	for _, seq := range append([]int{1, 5, api.High}, noSeqs...) {
		for _, client := range append([]int{0, 1, 2, 7}, noClients...) {
			wantFresh(t, nil, client, seq, memo.New)
			wantFresh(t, list{}, client, seq, memo.New)
		}
		for _, client := range append([]int{0, 2, 4, 5, 7}, noClients...) {
			wantFresh(t, three(), client, seq, memo.New)
		}
		for client := 1; client < 8; client++ {
			wantFresh(t, rising(1), client, seq, memo.New)
		}
	}
}

func TestFreshOfEachOfAFullList(t *testing.T) {
	for n := 1; n <= 8; n++ {
		for client := range n {
			for seq := range 100 {
				want := memo.Same
				if seq < 10*client+3 {
					want = memo.Old
				} else if seq > 10*client+3 {
					want = memo.New
				}
				wantFresh(t, rising(n), client, seq, want)
			}
		}
	}
}

// 9.1: Last

func TestLast(t *testing.T) {
	wantLast(t, three(), 1, said(1, 5, 1), true)
	wantLast(t, three(), 3, said(3, 1, 3), true)
	wantLast(t, three(), 6, said(6, api.High, 4), true)
	wantLast(t, three(), 2, api.Memo{}, false)
	wantLast(t, list{plain(0, 1)}, 0, plain(0, 1), true)
	wantLast(t, list{said(7, api.High, 0)}, 7, said(7, api.High, 0), true)
	for n := range 9 {
		for client := range 8 {
			if client < n {
				wantLast(t, rising(n), client, rising(8)[client], true)
			} else {
				wantLast(t, rising(n), client, api.Memo{}, false)
			}
		}
	}
	for _, r := range goodReplies() {
		m := api.Memo{Client: 4, Seq: 2, Reply: r}
		wantLast(t, list{said(2, 9, 1), m, said(5, 8, 2)}, 4, m, true)
	}
}

func TestLastOfNone(t *testing.T) {
	for _, l := range []list{nil, {}, {plain(1, 1)}, three(), {said(1, 1, 1), said(3, 3, 3), said(4, 4, 4), said(6, 6, 0)}} {
		for _, client := range append([]int{0, 2, 5, 7}, noClients...) {
			wantLast(t, l, client, api.Memo{}, false)
		}
	}
}

// 9.1: Keep

func TestKeepOfWhoHasNone(t *testing.T) {
	a, b, c := three()[0], three()[1], three()[2]
	for client, want := range map[int]list{
		0: {said(0, 9, 2), a, b, c},
		2: {a, said(2, 9, 2), b, c},
		4: {a, b, said(4, 9, 2), c},
		5: {a, b, said(5, 9, 2), c},
		7: {a, b, c, said(7, 9, 2)},
	} {
		wantKeep(t, three(), said(client, 9, 2), want)
	}
	for client := range 8 {
		for _, seq := range []int{1, 2, 1 << 32, api.High - 1, api.High} {
			wantKeep(t, nil, said(client, seq, 4), list{said(client, seq, 4)})
			wantKeep(t, list{}, plain(client, seq), list{plain(client, seq)})
		}
	}
	for n := range 8 {
		wantKeep(t, rising(n), said(n, 1, 3), append(rising(n), said(n, 1, 3)))
		wantKeep(t, rising(n), said(7, 1, 3), append(rising(n), said(7, 1, 3)))
	}
}

func TestKeepOfWhoHasAMemo(t *testing.T) {
	a, b, c := three()[0], three()[1], said(6, 40, 4)
	l := list{a, b, c}
	for _, seq := range []int{6, 7, 1000, api.High} {
		wantKeep(t, l, said(1, seq, 2), list{said(1, seq, 2), b, c})
	}
	for _, seq := range []int{2, 3, 1000, api.High} {
		wantKeep(t, l, said(3, seq, 2), list{a, said(3, seq, 2), c})
		wantKeep(t, l, plain(3, seq), list{a, plain(3, seq), c})
	}
	for _, seq := range []int{41, 42, 1000, api.High} {
		wantKeep(t, l, said(6, seq, 0), list{a, b, said(6, seq, 0)})
	}
	for at := range 8 {
		want := rising(8)
		want[at] = said(at, 10*at+4, 4)
		wantKeep(t, rising(8), want[at], want)
	}
}

// What is kept is not New any more, nor is what came before it.
func TestKeepOfWhatIsNotNew(t *testing.T) {
	for _, locks := range []int{0, 1, 4} {
		for _, seq := range []int{1, 2, 4, 5} {
			wantKeep(t, three(), said(1, seq, locks), three())
		}
		wantKeep(t, three(), said(3, 1, locks), three())
		for _, seq := range []int{1, 2, 1 << 32, api.High - 1, api.High} {
			wantKeep(t, three(), said(6, seq, locks), three())
		}
	}
	for at := range 8 {
		for seq := 1; seq <= 10*at+3; seq++ {
			wantKeep(t, rising(8), said(at, seq, 4), rising(8))
		}
	}
}

func TestKeepOfWhatIsNotWellFormed(t *testing.T) {
	for _, l := range []list{nil, {}, {plain(0, 1)}, three(), rising(8)} {
		for _, client := range noClients {
			wantKeep(t, l, api.Memo{Client: client, Seq: 1000, Reply: said(1, 1, 2).Reply}, l)
			wantKeep(t, l, plain(client, api.High), l)
		}
		for client := range 8 {
			for _, seq := range noSeqs {
				wantKeep(t, l, said(client, seq, 1), l)
				wantKeep(t, l, plain(client, seq), l)
			}
			for _, r := range badReplies() {
				wantKeep(t, l, api.Memo{Client: client, Seq: 1000, Reply: r}, l)
				wantKeep(t, l, api.Memo{Client: client, Seq: 1, Reply: r}, l)
			}
		}
		wantKeep(t, l, api.Memo{}, l)
	}
}

// Each reply that is well-formed is kept as it is, and found again.
func TestKeepOfEachReply(t *testing.T) {
	for _, l := range []list{nil, {}, {plain(4, 1)}, {plain(3, 9), plain(5, 9)}, rising(4), rising(5)} {
		for _, r := range goodReplies() {
			m := api.Memo{Client: 4, Seq: 1000, Reply: r}
			kept := memo.Keep(l, api.Answer(m))
			wantLast(t, kept, 4, m, true)
			wantFresh(t, kept, 4, 999, memo.Old)
			wantFresh(t, kept, 4, 1000, memo.Same)
			wantFresh(t, kept, 4, 1001, memo.New)
			wantRight(t, kept, true)
		}
	}
}
