package memo_test

import (
	"slices"
	"testing"

	"padlock/api"
	"padlock/memo"
)

// 9.2: each client has one memo; its Seq never decreases

// table is a list in which answers are kept, and for each client the answers
// that were well-formed, in the order in which they came.
type table struct {
	t    *testing.T
	l    list
	came [8]list
}

// keep keeps m and holds the list to all that came so far: this is worked out
// from what came, and nothing of it from the list.
func (x *table) keep(m api.Memo, may bool) {
	x.t.Helper()
	before := x.l
	x.l = memo.Keep(x.l, api.Answer(m))
	if may {
		x.came[m.Client] = append(slices.Clone(x.came[m.Client]), m)
	}
	if !memo.Right(x.l) {
		x.t.Errorf("%v is not right", x.l)
	}
	for client := range 8 {
		x.see(client, before)
	}
}

func (x *table) see(client int, before list) {
	x.t.Helper()
	of := func(l list) (mine list) {
		for _, m := range l {
			if m.Client == client {
				mine = append(mine, m)
			}
		}
		return mine
	}
	mine, had := of(x.l), of(before)
	if len(mine) > 1 {
		x.t.Errorf("client %d has the memos %v", client, mine)
	}
	if len(had) > 0 && (len(mine) == 0 || mine[0].Seq < had[0].Seq) {
		x.t.Errorf("the memo of client %d went from %v to %v", client, had, mine)
	}
	var want list
	if best := x.greatest(client); best.Seq > 0 {
		want = list{best}
	}
	if !same(mine, want) {
		x.t.Errorf("of %v, client %d has the memo %v; want %v", x.came[client], client, mine, want)
	}
}

// greatest returns what came with the greatest number, the first of these.
func (x *table) greatest(client int) (best api.Memo) {
	for _, m := range x.came[client] {
		if m.Seq > best.Seq {
			best = m
		}
	}
	return best
}

// All that can come in a few steps from a few clients.
func TestAllShortHistories(t *testing.T) {
	var all list
	for _, client := range []int{0, 3, 7} {
		for seq := 1; seq <= 3; seq++ {
			// The same number with another reply must not be kept.
			all = append(all, said(client, seq, 0), said(client, seq, 2))
		}
	}
	wrong := list{said(3, 0, 1), said(8, 9, 1), said(-1, 9, 1), {Client: 3, Seq: 9, Reply: api.Reply{Ahead: 4}}}
	var walk func(x table, left int)
	walk = func(x table, left int) {
		if left == 0 || t.Failed() {
			return
		}
		for _, m := range all {
			y := x
			y.keep(m, true)
			walk(y, left-1)
		}
		for _, m := range wrong {
			y := x
			y.keep(m, false)
			walk(y, left-1)
		}
	}
	walk(table{t: t}, 4)
}

// What comes from many clients in long histories, the choices by a short rule.
func TestLongHistories(t *testing.T) {
	good, bad := goodReplies(), badReplies()
	for seed := range uint32(40) {
		x, v := table{t: t}, seed*2654435761
		choose := func(n int) int {
			v = v*1664525 + 1013904223
			return int(v>>16) % n
		}
		for step := range 1000 {
			m := api.Memo{Client: choose(8), Seq: step/4 + choose(9) - 3, Reply: good[choose(len(good))]}
			may := m.Seq >= 1
			switch choose(10) {
			case 0:
				m.Reply, may = bad[choose(len(bad))], false
			case 1:
				m.Client, may = noClients[choose(len(noClients))], false
			}
			x.keep(m, may)
			if t.Failed() {
				return
			}
		}
		if len(x.l) != 8 {
			t.Errorf("seed %d: only %d clients have a memo", seed, len(x.l))
		}
	}
}
