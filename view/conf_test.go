package view_test

import (
	"math"
	"testing"

	"padlock/api"
	"padlock/view"
)

// wild are numbers that no setting may be, far below and far above.
var wild = []int{math.MinInt, math.MinInt + 1, -api.High, -1 << 32, -1000000, -2, 1000002, 1 << 32, 1<<32 + 1, 1<<32 + 3, api.High, math.MaxInt - 1, math.MaxInt}

// field is a setting, and from where to where it may be.
type field struct {
	name        string
	of          func(c *api.Conf) *int
	least, most int
}

// fields are all settings but Replicas.
func fields() []field {
	return []field{
		{"Clients", func(c *api.Conf) *int { return &c.Clients }, 1, 8},
		{"Lease", func(c *api.Conf) *int { return &c.Lease }, 1, 1000000},
		{"Rho", func(c *api.Conf) *int { return &c.Rho }, 0, 200},
		{"Base", func(c *api.Conf) *int { return &c.Base }, 1, 1000000},
		{"Cap", func(c *api.Conf) *int { return &c.Cap }, 1, 1000000},
		{"Beat", func(c *api.Conf) *int { return &c.Beat }, 1, 1000000},
		{"Wait", func(c *api.Conf) *int { return &c.Wait }, 0, 1000000},
		{"Sweep", func(c *api.Conf) *int { return &c.Sweep }, 1, 1000000},
		{"Retry", func(c *api.Conf) *int { return &c.Retry }, 1, 1000000},
		{"Keep", func(c *api.Conf) *int { return &c.Keep }, 1, 1000000},
	}
}

// wellFormed returns settings that are well-formed: ordinary ones, and those in
// which all is as small and as great as it may be. In some of them Base may be
// raised, and in some Cap lowered, as far as each may be.
func wellFormed() []api.Conf {
	least, most := api.Conf{Replicas: 1}, api.Conf{Replicas: 7}
	for _, f := range fields() {
		*f.of(&least) = f.least
		*f.of(&most) = f.most
	}
	wide := least
	wide.Replicas, wide.Cap = 5, 1000000
	return []api.Conf{
		{Replicas: 3, Clients: 2, Lease: 100, Rho: 50, Base: 4, Cap: 40, Beat: 2, Wait: 0, Sweep: 5, Retry: 7, Keep: 9},
		{Replicas: 5, Clients: 5, Lease: 90, Rho: 0, Base: 1, Cap: 1000000, Beat: 11, Wait: 3, Sweep: 1, Retry: 70, Keep: 90},
		least,
		most,
		wide,
	}
}

func wantMay(t *testing.T, c api.Conf, want bool) {
	t.Helper()
	if got := view.MayConf(c); got != want {
		t.Errorf("MayConf(%+v) = %v; want %v", c, got, want)
	}
}

// 13.1: MayConf

func TestMayConf(t *testing.T) {
	wantMay(t, api.Conf{}, false)
	for _, c := range wellFormed() {
		wantMay(t, c, true)
		c.Replicas = 2
		wantMay(t, c, false)
	}
}

func TestMayConfOfReplicas(t *testing.T) {
	for _, c := range wellFormed() {
		for n := -9; n <= 17; n++ {
			c.Replicas = n
			wantMay(t, c, n == 1 || n == 3 || n == 5 || n == 7)
		}
		for _, n := range wild {
			c.Replicas = n
			wantMay(t, c, false)
		}
	}
}

// Each field next to its edges and far off, with all others well-formed.
func TestMayConfOfEachField(t *testing.T) {
	for _, f := range fields() {
		for _, c := range wellFormed() {
			try := func(v int, in bool) {
				t.Helper()
				*f.of(&c) = v
				wantMay(t, c, in && c.Base <= c.Cap)
			}
			try(f.least-1, false)
			try(f.least, true)
			try(f.least+1, true)
			try(f.most-1, true)
			try(f.most, true)
			try(f.most+1, false)
			for _, v := range wild {
				try(v, false)
			}
		}
	}
}

func TestMayConfOfBaseAndCap(t *testing.T) {
	for _, c := range wellFormed() {
		for _, most := range []int{1, 2, 3, 40, 41, 500000, 999999, 1000000} {
			for _, base := range []int{1, most - 2, most - 1, most, most + 1, most + 2, 1000000} {
				c.Base, c.Cap = base, most
				wantMay(t, c, base >= 1 && base <= most)
			}
		}
	}
}

// All settings of which each is at one of its edges, or just beyond it.
func TestMayConfOfAllEdges(t *testing.T) {
	all := fields()
	var try func(c api.Conf, n int, may bool)
	try = func(c api.Conf, n int, may bool) {
		if n == len(all) {
			if want := may && c.Base <= c.Cap; view.MayConf(c) != want {
				t.Fatalf("MayConf(%+v) is not %v", c, want)
			}
			return
		}
		f := all[n]
		for _, v := range []int{f.least - 1, f.least, f.most, f.most + 1} {
			*f.of(&c) = v
			try(c, n+1, may && v >= f.least && v <= f.most)
		}
	}
	try(api.Conf{Replicas: 3}, 0, true)
	try(api.Conf{Replicas: 6}, 0, false)
}
