package lock_test

import (
	"slices"
	"testing"

	"padlock/api"
	"padlock/lock"
)

// 8.6: one holder, tokens that ascend, and first come, first served

// table is a list of locks on which much is done, and what was seen of it:
// nothing of what it knows is worked out from the lists but who holds a lock
// now, and with which token.
type table struct {
	t       *testing.T
	l       list
	given   int            // tokens, by all that calls told
	before  int            // tokens ahead of the last call
	last    map[string]int // the last token of each lock
	waiting map[string]row // who waits for each lock, as they came
	holder  map[string]int
}

func newTable(t *testing.T) *table {
	return &table{t: t, last: map[string]int{}, waiting: map[string]row{}, holder: map[string]int{}}
}

// copy returns a table from which one can go on in another way.
func (x *table) copy() *table {
	y := newTable(x.t)
	y.l, y.given, y.before = x.l, x.given, x.before
	for name, token := range x.last {
		y.last[name] = token
	}
	for name, line := range x.waiting {
		y.waiting[name] = slices.Clone(line)
	}
	for name, client := range x.holder {
		y.holder[name] = client
	}
	return y
}

// granted is told of each grant that is seen.
func (x *table) granted(name string, client, token int) {
	x.t.Helper()
	if token <= x.last[name] || token <= x.before || token > x.given {
		x.t.Errorf("lock %q is granted with token %d, after %d, where %d and then %d were given", name, token, x.last[name], x.before, x.given)
	}
	x.last[name] = token
	if line := x.waiting[name]; len(line) > 0 {
		if line[0] != client {
			x.t.Errorf("lock %q is granted to %d, where %v wait", name, client, line)
		}
		x.waiting[name] = line[1:]
	}
	x.holder[name] = client
}

// take, free and drop do it, and hold what comes of it to what was seen.

func (x *table) take(name string, client int, wait bool) {
	x.t.Helper()
	_, taken := x.holder[name]
	x.before = x.given
	l, ahead, code := lock.Take(x.l, name, client, x.given, wait)
	switch code {
	case api.OK:
		if taken {
			x.t.Errorf("lock %q is granted to %d, where %d holds it", name, client, x.holder[name])
		}
		x.given++
	case api.ErrWait:
		if !slices.Contains(x.waiting[name], client) {
			x.waiting[name] = append(x.waiting[name], client)
		}
		if at := slices.Index(x.waiting[name], client); at != ahead {
			x.t.Errorf("client %d is told that %d are ahead, not %d", client, ahead, at)
		}
	default:
		return
	}
	x.l = l
	x.see()
}

func (x *table) free(name string, client int) {
	x.t.Helper()
	l, n, code := lock.Free(x.l, name, client, x.given)
	if code != api.OK {
		return
	}
	x.l, x.before, x.given = l, x.given, x.given+n
	x.forget(name, client)
	x.see()
}

func (x *table) drop(gone ...int) {
	x.t.Helper()
	l, n := lock.Drop(x.l, gone, x.given)
	x.l, x.before, x.given = l, x.given, x.given+n
	for _, name := range []string{"a", "b", "c", "d", "e"} {
		for _, client := range gone {
			x.forget(name, client)
		}
	}
	x.see()
}

// forget lets a client go from what was seen of a lock.
func (x *table) forget(name string, client int) {
	if holder, ok := x.holder[name]; ok && holder == client {
		delete(x.holder, name)
	}
	x.waiting[name] = slices.DeleteFunc(x.waiting[name], func(other int) bool { return other == client })
}

// see holds the list to what was seen before: grants that are new come to whom
// waited first, all others are as they were.
func (x *table) see() {
	x.t.Helper()
	if !lock.Right(x.l) {
		x.t.Errorf("%v is not right", x.l)
	}
	for _, k := range x.l {
		holder, has := x.holder[k.Name]
		switch {
		case !has:
			x.granted(k.Name, k.Holder, k.Token)
		case holder != k.Holder || x.last[k.Name] != k.Token:
			x.t.Errorf("lock %q went from %d with %d to %v", k.Name, holder, x.last[k.Name], k)
		}
		if !slices.Equal(k.Line, x.waiting[k.Name]) {
			x.t.Errorf("for lock %q wait %v, where %v came", k.Name, k.Line, x.waiting[k.Name])
		}
	}
	// No lock is lost: whoever holds one, or waits, has a lock of that name.
	for name := range x.holder {
		if _, ok := lock.Find(x.l, name); !ok {
			x.t.Errorf("lock %q of %d is not there any more", name, x.holder[name])
		}
	}
	for name, line := range x.waiting {
		if _, ok := lock.Find(x.l, name); !ok && len(line) > 0 {
			x.t.Errorf("%v wait for lock %q, which is not there", line, name)
		}
	}
}

// steps returns all that few clients may do with two locks.
func steps() []func(x *table) {
	var all []func(x *table)
	for client := range 3 {
		for _, name := range []string{"a", "b"} {
			all = append(all,
				func(x *table) { x.take(name, client, true) },
				func(x *table) { x.take(name, client, false) },
				func(x *table) { x.free(name, client) })
		}
	}
	for _, gone := range []row{{}, {0}, {1}, {2}, {1, 0}, {1, 2}, {0, 2}, {0, 1, 2}} {
		all = append(all, func(x *table) { x.drop(gone...) })
	}
	return all
}

// All that few clients can do in a few steps.
func TestAllShortHistories(t *testing.T) {
	var walk func(x *table, left int)
	walk = func(x *table, left int) {
		if left == 0 || t.Failed() {
			return
		}
		for _, step := range steps() {
			y := x.copy()
			step(y)
			walk(y, left-1)
		}
	}
	walk(newTable(t), 3)
	// From where all wait for all, so that all are served.
	x := newTable(t)
	for client := range 3 {
		x.take("a", client, true)
		x.take("b", 2-client, true)
	}
	walk(x, 3)
}

// What many clients do in long histories, the choices by a short rule.
func TestLongHistories(t *testing.T) {
	names := []string{"a", "b", "c", "d", "e"}
	for seed := range uint32(60) {
		x, v := newTable(t), seed*2654435761
		choose := func(n int) int {
			v = v*1664525 + 1013904223
			return int(v>>16) % n
		}
		for range 1500 {
			name, client := names[choose(5)], choose(8)
			switch choose(8) {
			case 0, 1, 2, 3:
				x.take(name, client, true)
			case 4:
				x.take(name, client, false)
			case 5, 6:
				if holder, ok := x.holder[name]; ok && choose(2) == 0 {
					client = holder
				}
				x.free(name, client)
			default:
				x.drop([]int{client, choose(8), choose(8)}[:choose(4)]...)
			}
			if t.Failed() {
				return
			}
		}
		if x.given < 200 {
			t.Errorf("seed %d: only %d tokens were given", seed, x.given)
		}
	}
}

// One lock goes through all who wait for it, as they came, with tokens that
// are not repeated after it was gone.
func TestLockGoesRound(t *testing.T) {
	x := newTable(t)
	for round := range 20 {
		order := row{3, 1, 7, 5}
		for _, client := range order {
			x.take("a", (client+round)%8, true)
		}
		for i, client := range order {
			k, ok := lock.Find(x.l, "a")
			if !ok || k.Holder != (client+round)%8 || k.Token != 4*round+i+1 {
				t.Errorf("round %d: %d has %v, %v", round, client, k, ok)
			}
			x.free("a", k.Holder)
		}
		if len(x.l) != 0 {
			t.Errorf("round %d: nobody holds %v", round, x.l)
		}
	}
}
