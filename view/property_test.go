package view_test

import (
	"math"
	"math/bits"
	"testing"

	"padlock/api"
	"padlock/view"
)

// 13.4: two quorums

// Sets of replicas are the bits of a number.
func TestQuorumsMeet(t *testing.T) {
	for n := 1; n <= 7; n++ {
		q := view.Quorum(n)
		quorums := 0
		for a := range 1 << n {
			if bits.OnesCount(uint(a)) < q {
				continue
			}
			quorums++
			for b := range 1 << n {
				if bits.OnesCount(uint(b)) >= q && a&b == 0 {
					t.Errorf("of %d replicas, %b and %b are quorums", n, a, b)
				}
			}
		}
		if quorums == 0 {
			t.Errorf("%d replicas have no quorum", n)
		}
	}
}

// With as few failed replicas as settings are made for, a quorum is left.
func TestQuorumIsLeft(t *testing.T) {
	for _, n := range []int{1, 3, 5, 7} {
		if failed := (n - 1) / 2; n-failed != view.Quorum(n) {
			t.Errorf("of %d replicas, %d and %d are not all", n, failed, view.Quorum(n))
		}
	}
}

// 13.4: consecutive views

func TestEachLeadsOne(t *testing.T) {
	for n := 1; n <= 7; n++ {
		for _, v := range views() {
			if v > api.High-n+1 {
				continue
			}
			var led [api.MaxReplicas]int
			for i := range n {
				led[view.Leader(v+i, n)]++
			}
			for host := range led {
				if host < n && led[host] != 1 || host >= n && led[host] != 0 {
					t.Errorf("%d of %d replicas leads %d of the views from %d on", host, n, led[host], v)
				}
			}
		}
	}
}

// What Led tells is the one view among these that host leads.
func TestLedAmongConsecutiveViews(t *testing.T) {
	for n := 1; n <= 7; n++ {
		for _, v := range views() {
			for host := range n {
				led := view.Led(v, n, host)
				if led < v || led >= v+n {
					t.Errorf("Led(%d, %d, %d) = %d", v, n, host, led)
				}
				if led <= api.High {
					wantLeader(t, led, n, host)
					wantLed(t, led, n, host, led)
				}
			}
		}
	}
}

// 13.4: a later view

// small calls f with all settings up to a most of 70, those that may not be too.
func small(f func(s setting)) {
	for most := -1; most <= 70; most++ {
		for base := -1; base <= most+1; base++ {
			f(setting{base, most})
		}
	}
}

func wantRising(t *testing.T, s setting) {
	t.Helper()
	last := 0
	for v := range 30 {
		ticks := view.Timeout(s.base, s.most, v)
		if ticks < last || ticks > s.most || last < s.most && ticks == last || v == 0 && ticks != s.base {
			t.Errorf("Timeout(%d, %d, %d) = %d, behind %d", s.base, s.most, v, ticks, last)
		}
		last = ticks
	}
	if last != s.most || view.Timeout(s.base, s.most, api.High) != s.most {
		t.Errorf("the views of %d and %d last at most %d, not %d", s.base, s.most, last, s.most)
	}
}

func TestLaterViewsLast(t *testing.T) {
	for _, s := range settings() {
		wantRising(t, s)
	}
	small(func(s setting) {
		if s.base >= 1 && s.base <= s.most {
			wantRising(t, s)
		}
	})
}

// Views from what Reach tells on last for need, and those before it don't.
func TestReachParts(t *testing.T) {
	small(func(s setting) {
		for need := -2; need <= 75; need++ {
			first, ok := view.Reach(s.base, s.most, need)
			if may := s.base >= 1 && s.base <= s.most; ok != (may && need <= s.most) || !ok && first != 0 {
				t.Errorf("Reach(%d, %d, %d) = %d, %v", s.base, s.most, need, first, ok)
			}
			if !ok {
				continue
			}
			for v := range 10 {
				if lasts := view.Timeout(s.base, s.most, v) >= need; lasts != (v >= first) {
					t.Errorf("Reach(%d, %d, %d) = %d, but view %d", s.base, s.most, need, first, v)
				}
			}
		}
	})
}

// R1: calls with any numbers end, without a panic, and a second one tells the same.

// anything are numbers at and around all edges.
func anything() []int {
	var all []int
	for _, edge := range []int{math.MinInt + 2, -api.High, -1000000, 0, 7, 1000000, 1 << 31, 1 << 32, api.High, 1 << 62, math.MaxInt - 2} {
		all = append(all, edge-2, edge-1, edge, edge+1, edge+2)
	}
	return all
}

// numbers is what the calls with three numbers answer.
type numbers struct {
	quorum, leader, led, timeout, reach int
	ok                                  bool
}

func tell(a, b, c int) numbers {
	n := numbers{quorum: view.Quorum(a), leader: view.Leader(a, b), led: view.Led(a, b, c), timeout: view.Timeout(a, b, c)}
	n.reach, n.ok = view.Reach(a, b, c)
	return n
}

func TestAnything(t *testing.T) {
	for _, a := range anything() {
		for _, b := range anything() {
			for _, c := range anything() {
				first := tell(a, b, c)
				view.MayConf(api.Conf{Replicas: a, Clients: b, Lease: c})
				if again := tell(a, b, c); again != first {
					t.Fatalf("%d, %d and %d tell %+v, then %+v", a, b, c, first, again)
				}
				if first.timeout < 0 || first.timeout > 1000000 || first.reach < 0 || first.reach > 20 || first.led > api.High+6 {
					t.Fatalf("%d, %d and %d tell %+v", a, b, c, first)
				}
			}
		}
	}
}

func TestAnyConf(t *testing.T) {
	for _, a := range anything() {
		for _, b := range anything() {
			for _, c := range wellFormed() {
				c.Base, c.Cap = a, b
				first := view.MayConf(c)
				if want := a >= 1 && a <= b && b <= 1000000; first != want || view.MayConf(c) != want {
					t.Errorf("MayConf(%+v) is not %v", c, want)
				}
			}
		}
	}
}
