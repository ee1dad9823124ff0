package view_test

import (
	"math"
	"testing"

	"padlock/api"
	"padlock/view"
)

// noViews are no views, and noReplicas numbers of replicas that there cannot be.
var (
	noViews    = []int{math.MinInt, math.MinInt + 1, -api.High, -8, -7, -3, -2, -1, api.High + 1, api.High + 2, 1 << 62, math.MaxInt - 6, math.MaxInt}
	noReplicas = []int{math.MinInt, math.MinInt + 1, -api.High, -7, -3, -1, 0, 8, 9, 15, 1 << 32, 1<<32 + 3, api.High, math.MaxInt - 1, math.MaxInt}
)

// views are views from the first one on, around a great one, and up to the last one.
func views() []int {
	var all []int
	for i := range 30 {
		all = append(all, i, 1<<40-15+i, api.High-i)
	}
	return all
}

func wantQuorum(t *testing.T, replicas, want int) {
	t.Helper()
	if got := view.Quorum(replicas); got != want {
		t.Errorf("Quorum(%d) = %d; want %d", replicas, got, want)
	}
}

func wantLeader(t *testing.T, v, replicas, want int) {
	t.Helper()
	if got := view.Leader(v, replicas); got != want {
		t.Errorf("Leader(%d, %d) = %d; want %d", v, replicas, got, want)
	}
}

func wantLed(t *testing.T, v, replicas, host, want int) {
	t.Helper()
	if got := view.Led(v, replicas, host); got != want {
		t.Errorf("Led(%d, %d, %d) = %d; want %d", v, replicas, host, got, want)
	}
}

// 13.2: Quorum

func TestQuorum(t *testing.T) {
	for i, want := range []int{0, 0, 1, 2, 2, 3, 3, 4, 4, 0} {
		wantQuorum(t, i-1, want)
	}
	for _, n := range noReplicas {
		wantQuorum(t, n, 0)
	}
}

// It is more than half, and one less is not.
func TestQuorumIsTheLeast(t *testing.T) {
	for n := 1; n <= 7; n++ {
		if q := view.Quorum(n); 2*q <= n || 2*(q-1) > n {
			t.Errorf("Quorum(%d) = %d", n, q)
		}
	}
}

// 13.2: Leader

func TestLeader(t *testing.T) {
	wantLeader(t, 5, 3, 2)
	for n := 1; n <= 7; n++ {
		// The first view is led by 0, and each one by the replica behind that of the view before it.
		leader := 0
		for v := range 100 {
			wantLeader(t, v, n, leader)
			if leader++; leader == n {
				leader = 0
			}
		}
		for _, v := range views() {
			wantLeader(t, v, n, v%n)
		}
	}
	// 2^61 modulo each number.
	for i, want := range []int{0, 0, 2, 0, 2, 2, 2} {
		wantLeader(t, api.High, 1+i, want)
	}
}

func TestLeaderOfNone(t *testing.T) {
	for _, v := range noViews {
		for n := 1; n <= 7; n++ {
			wantLeader(t, v, n, -1)
		}
		for _, n := range noReplicas {
			wantLeader(t, v, n, -1)
		}
	}
	for _, v := range views() {
		for _, n := range noReplicas {
			wantLeader(t, v, n, -1)
		}
	}
}

// 13.2: Led

func TestLed(t *testing.T) {
	wantLed(t, 4, 3, 0, 6)
	wantLed(t, 4, 3, 1, 4)
	wantLed(t, 4, 3, 2, 5)
	wantLed(t, 0, 7, 0, 0)
	wantLed(t, 0, 7, 6, 6)
	wantLed(t, 5, 7, 6, 6)
	wantLed(t, 6, 7, 6, 6)
	wantLed(t, 7, 7, 6, 13)
	wantLed(t, 7, 7, 0, 7)
	wantLed(t, 8, 7, 0, 14)
	wantLed(t, 9, 1, 0, 9)
	wantLed(t, 3, 2, 0, 4)
	wantLed(t, 3, 2, 1, 3)
}

// The first one of the views that follow which is the host's modulo n.
func TestLedIsTheLeast(t *testing.T) {
	for _, v := range views() {
		for n := 1; n <= 7; n++ {
			for host := range n {
				want := v
				for want%n != host {
					want++
				}
				wantLed(t, v, n, host, want)
			}
		}
	}
}

// A view that host leads, and those next to it.
func TestLedAroundAView(t *testing.T) {
	for _, row := range []int{0, 1, 5, 1 << 40} {
		for n := 1; n <= 7; n++ {
			for host := range n {
				v := row*n + host
				wantLed(t, v, n, host, v)
				wantLed(t, v+1, n, host, v+n)
				if v > 0 {
					wantLed(t, v-1, n, host, v-1+min(n-1, 1))
				}
			}
		}
	}
}

// 13.2 names no view above which there is none: the next one may lie above High.
func TestLedAboveHigh(t *testing.T) {
	wantLed(t, api.High, 1, 0, api.High)
	wantLed(t, api.High, 2, 0, api.High)
	wantLed(t, api.High, 2, 1, api.High+1)
	wantLed(t, api.High, 3, 0, api.High+1)
	wantLed(t, api.High, 3, 1, api.High+2)
	wantLed(t, api.High, 3, 2, api.High)
	wantLed(t, api.High-1, 3, 0, api.High+1)
	wantLed(t, api.High-1, 3, 1, api.High-1)
	wantLed(t, api.High, 7, 1, api.High+6)
	wantLed(t, api.High-5, 7, 1, api.High-1)
	wantLed(t, api.High-4, 7, 5, api.High-4)
	wantLed(t, api.High-3, 7, 5, api.High+3)
}

func TestLedOfNone(t *testing.T) {
	for n := 1; n <= 7; n++ {
		for _, v := range noViews {
			for host := -1; host <= n; host++ {
				wantLed(t, v, n, host, -1)
			}
		}
		for _, v := range views() {
			for _, host := range append([]int{-1, -2, -n, n, n + 1, 2 * n}, noViews...) {
				wantLed(t, v, n, host, -1)
			}
		}
	}
	for _, v := range append(views(), noViews...) {
		for _, n := range noReplicas {
			for _, host := range []int{math.MinInt, -1, 0, 1, 6, 7, math.MaxInt, n - 1, n} {
				wantLed(t, v, n, host, -1)
			}
		}
	}
}
