package clock_test

import (
	"math"
	"slices"
	"testing"

	"padlock/api"
	"padlock/clock"
	"padlock/rate"
)

const none = 1001 // what Worst is when no number of thousandths will do

var (
	nan     = math.NaN()
	inf     = math.Inf(1)
	negZero = math.Copysign(0, -1)
)

// rates are numbers of all kinds.
var rates = []float64{
	nan, -inf, -math.MaxFloat64, -17, -1, -0.5, -math.SmallestNonzeroFloat64, negZero,
	0, math.SmallestNonzeroFloat64, 0.001, 0.29, 0.5, 0.9, 0.999, math.Nextafter(1, 0),
	1, math.Nextafter(1, 2), 1.001, 1.1, 1.37, 1.5, 2, 2.25, 3.3, math.Nextafter(16, 0),
	16, math.Nextafter(16, 17), 17, math.MaxFloat64, inf,
}

// wrongPasses are the ticks that Pass refuses.
var wrongPasses = []int{
	math.MinInt, -1 << 31, -1000, -1, 0, api.MaxPass + 1, 1 << 31, 1<<32 + 5, api.High, math.MaxInt,
}

// wrongClocks are the indices that no clock of n has.
func wrongClocks(n int) []int {
	return []int{math.MinInt, -1 << 32, -n - 1, -1, n, n + 1, api.MaxHosts, 1 << 32, api.High, math.MaxInt}
}

// seen is all that Clocks tell without being changed.
type seen struct {
	now             []int
	len, ref, worst int
}

func look(c *clock.Clocks) seen {
	s := seen{len: c.Len(), ref: c.Ref(), worst: c.Worst()}
	for i := range c.Len() {
		s.now = append(s.now, c.Now(i))
	}
	return s
}

func (s seen) equal(o seen) bool {
	return slices.Equal(s.now, o.now) && s.len == o.len && s.ref == o.ref && s.worst == o.worst
}

// wantPass fails unless n ticks pass with the moves that are wanted.
func wantPass(t *testing.T, c *clock.Clocks, n int, want ...int) {
	t.Helper()
	if moves, code := c.Pass(n); code != api.OK || !slices.Equal(moves, want) {
		t.Errorf("Pass(%d) = %v, %d; want %v, OK", n, moves, code, want)
	}
}

// wantSeen fails unless the clocks show, and tell, what is wanted.
func wantSeen(t *testing.T, c *clock.Clocks, ref, worst int, now ...int) {
	t.Helper()
	if got, want := look(c), (seen{now, len(now), ref, worst}); !got.equal(want) {
		t.Errorf("clocks tell %+v; want %+v", got, want)
	}
}

// set sets rates that there are clocks for, by index.
func set(t *testing.T, c *clock.Clocks, rs ...float64) {
	t.Helper()
	for i, r := range rs {
		if code := c.Set(i, r); code != api.OK {
			t.Errorf("Set(%d, %v) = %d; want OK", i, r, code)
		}
	}
}

// 3.1

func TestNewAndLen(t *testing.T) {
	for _, c := range []struct{ n, want int }{
		{math.MinInt, 0}, {-1 << 32, 0}, {-16, 0}, {-4, 0}, {-1, 0},
		{0, 0}, {1, 1}, {2, 2}, {3, 3}, {7, 7}, {8, 8}, {14, 14},
		{api.MaxHosts, 15}, {api.MaxHosts + 1, 15}, {100, 15}, {1 << 32, 15}, {api.High, 15}, {math.MaxInt, 15},
	} {
		k := clock.New(c.n)
		if k == nil {
			t.Errorf("New(%d) is nil", c.n)
		}
		wantSeen(t, k, 0, 0, make([]int, c.want)...)
	}
}

func TestNewClocksHaveRate1(t *testing.T) {
	for n := range api.MaxHosts + 2 {
		c := clock.New(n)
		hosts := min(n, api.MaxHosts)
		wantPass(t, c, 7, slices.Repeat([]int{7}, hosts)...)
		wantPass(t, c, 1000, slices.Repeat([]int{1000}, hosts)...)
		wantSeen(t, c, 1007, 0, slices.Repeat([]int{1007}, hosts)...)
	}
}

func TestLenStays(t *testing.T) {
	c := clock.New(4)
	set(t, c, 2, nan, 0.5, inf)
	c.Set(4, 2)
	c.Pass(9)
	c.Pass(0)
	if c.Len() != 4 {
		t.Errorf("Len() = %d; want 4", c.Len())
	}
}

func TestSet(t *testing.T) {
	for _, c := range []struct {
		r    float64
		n    int
		want int
	}{
		{1, 5, 5},
		{2, 5, 10},
		{0.5, 5, 2},
		{1.5, 3, 4},
		{math.Nextafter(1, 0), 5, 4},
		{15.5, 3, 46},
		{16, 5, 80},
		{math.SmallestNonzeroFloat64, 1000, 0},
		// what Clean changes
		{nan, 5, 0},
		{-nan, 5, 0},
		{math.Float64frombits(0x7ff0000000000001), 5, 0},
		{-inf, 5, 0},
		{-math.MaxFloat64, 5, 0},
		{-2, 5, 0},
		{-0.5, 5, 0},
		{-math.SmallestNonzeroFloat64, 5, 0},
		{negZero, 5, 0},
		{0, 5, 0},
		{math.Nextafter(16, 17), 5, 80},
		{17, 5, 80},
		{math.MaxFloat64, 5, 80},
		{inf, 5, 80},
		{inf, api.MaxPass, 16000},
	} {
		k := clock.New(3)
		set(t, k, 1, c.r)
		wantPass(t, k, c.n, c.n, c.want, c.n)
	}
}

func TestSetOfEachClock(t *testing.T) {
	for i := range api.MaxHosts {
		c := clock.New(api.MaxHosts)
		if code := c.Set(i, 3); code != api.OK {
			t.Errorf("Set(%d, 3) = %d; want OK", i, code)
		}
		want := slices.Repeat([]int{2}, api.MaxHosts)
		want[i] = 6
		wantPass(t, c, 2, want...)
		wantSeen(t, c, 2, none, want...)
	}
}

// A rate holds from Set on, until the next: what is shown stays at Set.
func TestSetInTurn(t *testing.T) {
	c := clock.New(2)
	set(t, c, 1, 5)
	set(t, c, 1, 1.5)
	wantSeen(t, c, 0, 0, 0, 0)
	wantPass(t, c, 4, 4, 6)
	wantPass(t, c, 2, 2, 3)
	set(t, c, 2)
	wantSeen(t, c, 6, 500, 6, 9)
	wantPass(t, c, 2, 4, 3)
	set(t, c, nan, negZero)
	wantPass(t, c, 10, 0, 0)
	set(t, c, 1, 1)
	wantPass(t, c, 3, 3, 3)
	wantSeen(t, c, 21, 1000, 13, 15)
}

func TestSetOfNoClock(t *testing.T) {
	for _, n := range []int{-1, 0, 1, 3, api.MaxHosts - 1, api.MaxHosts, api.MaxHosts + 1} {
		c := clock.New(n)
		for _, i := range wrongClocks(c.Len()) {
			if code := c.Set(i, 2); code != api.ErrNone {
				t.Errorf("Set(%d, 2) of %d clocks = %d; want ErrNone", i, c.Len(), code)
			}
		}
		wantPass(t, c, 5, slices.Repeat([]int{5}, c.Len())...)
	}
}

func TestPass(t *testing.T) {
	c := clock.New(2)
	set(t, c, 1, 2)
	wantPass(t, c, 5, 5, 10)
	wantPass(t, c, 1, 1, 2)
	wantPass(t, c, api.MaxPass-1, 999, 1998)
	wantPass(t, c, api.MaxPass, 1000, 2000)
	wantSeen(t, c, 2005, 1000, 2005, 4010)
}

// Each Pass rounds down by itself: what is left of a tick is not kept.
func TestPassRoundsEachTime(t *testing.T) {
	c := clock.New(3)
	set(t, c, 0.5, 1.5, 0.999)
	for range 4 {
		wantPass(t, c, 1, 0, 1, 0)
	}
	wantPass(t, c, 4, 2, 6, 3)
	wantSeen(t, c, 8, 1000, 2, 10, 3)
}

func TestPassMovesAsRatesDo(t *testing.T) {
	for n := 1; n <= api.MaxPass; n++ {
		c := clock.New(api.MaxHosts)
		for at := range len(rates) - api.MaxHosts + 1 {
			rs := rates[at : at+api.MaxHosts]
			set(t, c, rs...)
			before := look(c)
			moves, code := c.Pass(n)
			if code != api.OK || len(moves) != len(rs) {
				t.Fatalf("Pass(%d) = %v, %d", n, moves, code)
			}
			for i, r := range rs {
				if want := rate.Move(r, n); moves[i] != want || c.Now(i) != before.now[i]+want {
					t.Errorf("Pass(%d) with rate %v = %d, from %d to %d; want %d", n, r, moves[i], before.now[i], c.Now(i), want)
				}
			}
			if c.Ref() != before.ref+n {
				t.Errorf("Ref() = %d after Pass(%d), %d before", c.Ref(), n, before.ref)
			}
		}
	}
}

func TestPassRefusesOtherTicks(t *testing.T) {
	for _, hosts := range []int{0, 1, 3, api.MaxHosts} {
		c := clock.New(hosts)
		for _, n := range wrongPasses {
			if moves, code := c.Pass(n); code != api.ErrArg || len(moves) != 0 {
				t.Errorf("Pass(%d) of %d clocks = %v, %d; want none, ErrArg", n, hosts, moves, code)
			}
		}
		wantSeen(t, c, 0, 0, make([]int, hosts)...)
	}
}

func TestNowOfNoClock(t *testing.T) {
	for _, n := range []int{0, 1, 3, api.MaxHosts} {
		c := clock.New(n)
		c.Pass(11)
		for _, i := range wrongClocks(n) {
			if got := c.Now(i); got != 0 {
				t.Errorf("Now(%d) of %d clocks = %d; want 0", i, n, got)
			}
		}
	}
}

// The clocks may all stand, or there may be none: ticks pass nevertheless.
func TestRefIsNoClock(t *testing.T) {
	c := clock.New(2)
	if c.Ref() != 0 {
		t.Errorf("Ref() = %d at first", c.Ref())
	}
	wantPass(t, c, 5, 5, 5)
	wantPass(t, c, 1, 1, 1)
	wantSeen(t, c, 6, 0, 6, 6)
	set(t, c, 0, inf)
	wantPass(t, c, 10, 0, 160)
	wantSeen(t, c, 16, none, 6, 166)

	empty := clock.New(0)
	wantPass(t, empty, 5)
	wantPass(t, empty, 1000)
	wantSeen(t, empty, 1005, 0)
}

func TestManyTicks(t *testing.T) {
	c := clock.New(2)
	set(t, c, inf)
	for range 200000 {
		c.Pass(api.MaxPass)
	}
	wantSeen(t, c, 200000000, none, 3200000000, 200000000)
}

// 3.2

func TestWorstOfOnePass(t *testing.T) {
	for _, c := range []struct {
		r    float64
		n    int
		want int
	}{
		{1, 1, 0},
		{1, 1000, 0},
		{1.1, 1, 0},
		{1.1, 10, 100},
		{1.1, 1000, 100},
		{0.9, 1000, 100},
		{0.9, 1, 1000},
		{1.0015, 1000, 1},
		{1.001, 1000, 0}, // the product of floats is a little less than 1001
		{1.0015, 1, 0},
		{0.999, 1000, 1},
		{0.9999, 1000, 1},
		{0.999, 999, 2}, // 1 of 999 is more than 1 of 1000
		{1.2, 7, 143},
		{0.5, 3, 667},
		{1.34, 3, 334},
		{1.998, 1000, 998},
		{1.999, 1000, 999},
		{0.001, 1000, 999},
		{0.002, 1000, 998},
		{2, 1, 1000},
		{2, 1000, 1000},
		{0, 1, 1000},
		{nan, 1000, 1000},
		{negZero, 7, 1000},
		{-3, 7, 1000},
		{2.001, 1, 1000},
		{2.001, 999, 1000},
		{2.001, 1000, none},
		{2.25, 3, 1000},
		{2.25, 4, none},
		{3, 1, none},
		{16, 1000, none},
		{inf, 1, none},
	} {
		for i := range 3 {
			k := clock.New(3)
			k.Set(i, c.r)
			if k.Worst() != 0 {
				t.Errorf("Worst() = %d before any Pass", k.Worst())
			}
			k.Pass(c.n)
			if got := k.Worst(); got != c.want {
				t.Errorf("Worst() = %d after Set(%d, %v) and Pass(%d); want %d", got, i, c.r, c.n, c.want)
			}
		}
	}
}

func TestWorstIsOfAllClocks(t *testing.T) {
	for _, c := range []struct {
		rs   []float64
		want int
	}{
		{[]float64{1, 1, 1}, 0},
		{[]float64{1.1, 0.8, 1.3}, 300},
		{[]float64{1.3, 0.8, 1.1}, 300},
		{[]float64{1.1, 0.6, 1.3}, 400},
		{[]float64{0.8, 1.1, 1.2}, 200},
		{[]float64{2.5, 1, 0}, none},
		{[]float64{0, 1, 2.5}, none},
	} {
		k := clock.New(len(c.rs))
		set(t, k, c.rs...)
		k.Pass(1000)
		if k.Worst() != c.want {
			t.Errorf("Worst() = %d for the rates %v; want %d", k.Worst(), c.rs, c.want)
		}
	}
}

func TestWorstDoesNotFall(t *testing.T) {
	c := clock.New(2)
	for _, p := range []struct {
		r       float64
		n, want int
	}{
		{1, 10, 0},
		{1.01, 1000, 10},
		{1, 1000, 10},
		{0.99, 1000, 10},
		{1.0115, 1000, 11},
		{1.01, 1000, 11},
		{0.5, 2, 500},
		{1.4, 10, 500},
		{1, 1, 500},
		{nan, 1, 1000},
		{1.5, 2, 1000},
		{2, 1000, 1000},
		{2.5, 2, none},
		{1, 1000, none},
		{16, 1000, none},
		{0, 1, none},
	} {
		set(t, c, 1, p.r)
		c.Pass(p.n)
		if c.Worst() != p.want {
			t.Errorf("Worst() = %d after Set(1, %v) and Pass(%d); want %d", c.Worst(), p.r, p.n, p.want)
		}
	}
}

// Each Pass counts by itself: a clock that goes too fast, and then too slow by
// as much, was off at both.
func TestWorstDoesNotEvenOut(t *testing.T) {
	c := clock.New(1)
	set(t, c, 1.2)
	c.Pass(100)
	set(t, c, 0.8)
	c.Pass(100)
	wantSeen(t, c, 200, 200, 200)
}

// Only what passes counts: a rate that no tick passes with is none's fault.
func TestWorstIsNotOfRates(t *testing.T) {
	c := clock.New(2)
	set(t, c, inf, nan)
	wantSeen(t, c, 0, 0, 0, 0)
	set(t, c, 1, 1)
	c.Pass(1000)
	wantSeen(t, c, 1000, 0, 1000, 1000)
}

// worst is what 3.2 says, by trying.
func worst(passes []int, moves [][]int) int {
	for w := range none {
		held := true
		for p, n := range passes {
			for _, move := range moves[p] {
				held = held && rate.Within(n, move, w)
			}
		}
		if held {
			return w
		}
	}
	return none
}

func TestWorstIsTheLeast(t *testing.T) {
	for _, r := range rates {
		for _, s := range rates {
			c := clock.New(2)
			var passes []int
			var all [][]int
			for _, n := range []int{1000, 7, 1} {
				set(t, c, s, r)
				moves, _ := c.Pass(n)
				passes, all = append(passes, n), append(all, slices.Clone(moves))
				if got, want := c.Worst(), worst(passes, all); got != want {
					t.Errorf("Worst() = %d for the rates %v, %v after %v; want %d", got, s, r, passes, want)
				}
			}
		}
	}
}

// 3.3

// numbers is a row of numbers that is the same at each run.
type numbers uint64

func (x *numbers) below(n int) int {
	*x = *x*6364136223846793005 + 1442695040888963407
	return int(uint64(*x)>>33) % n
}

// play lets ticks pass with ever other rates, all within far of 1, and tells
// what is seen at each point.
func play(t *testing.T, seed, far int) (*clock.Clocks, []seen) {
	t.Helper()
	x := numbers(seed)
	c := clock.New(1 + x.below(api.MaxHosts))
	life := []seen{look(c)}
	for range 60 {
		r := 1 + float64(x.below(2*far+1)-far)/1000
		if code := c.Set(x.below(c.Len()), r); code != api.OK {
			t.Errorf("Set = %d", code)
		}
		if _, code := c.Pass(1 + x.below(1+x.below(api.MaxPass))); code != api.OK {
			t.Errorf("Pass = %d", code)
		}
		life = append(life, look(c))
	}
	return c, life
}

func TestAdvancesAreWithinWorst(t *testing.T) {
	for seed := range 40 {
		c, life := play(t, seed, []int{0, 5, 100, 300, 1000}[seed%5])
		w := c.Worst()
		if w > 1000 || seed%5 == 0 && w != 0 {
			t.Errorf("Worst() = %d with seed %d", w, seed)
		}
		for a, from := range life {
			for _, to := range life[a:] {
				passed := to.ref - from.ref
				for i := range c.Len() {
					advance := to.now[i] - from.now[i]
					if off := max(advance-passed, passed-advance); 1000*off > w*passed {
						t.Errorf("clock %d advanced by %d while %d passed; Worst is %d", i, advance, passed, w)
					}
				}
			}
		}
	}
}

// At each point what is seen is made of what was seen before: no clock goes
// back, and Worst doesn't fall.
func TestNothingGoesBack(t *testing.T) {
	for seed := range 20 {
		_, life := play(t, seed, 999)
		for at := 1; at < len(life); at++ {
			from, to := life[at-1], life[at]
			if to.ref <= from.ref || to.worst < from.worst || to.len != from.len {
				t.Errorf("after %+v: %+v", from, to)
			}
			for i := range to.now {
				if to.now[i] < from.now[i] {
					t.Errorf("clock %d goes back from %d to %d", i, from.now[i], to.now[i])
				}
			}
		}
	}
}

// R1

func TestSameCallsSameResults(t *testing.T) {
	for seed := range 10 {
		_, one := play(t, seed, 1000)
		_, two := play(t, seed, 1000)
		if !slices.EqualFunc(one, two, seen.equal) {
			t.Errorf("the same calls, seed %d, show another life", seed)
		}
	}
}

func TestObjectsHaveNothingInCommon(t *testing.T) {
	a, b := clock.New(2), clock.New(2)
	set(t, a, 2, 3)
	wantPass(t, a, 10, 20, 30)
	wantSeen(t, b, 0, 0, 0, 0)
	wantPass(t, b, 4, 4, 4)
	wantSeen(t, a, 10, none, 20, 30)
	wantSeen(t, b, 4, 0, 4, 4)
	wantSeen(t, clock.New(2), 0, 0, 0, 0)
}

// Whatever they are given, the calls end, and keep within what there can be.
func TestCallsOfAnything(t *testing.T) {
	hosts := append(wrongClocks(3), 0, 1, 2)
	for _, n := range append(slices.Clone(hosts), wrongPasses...) {
		c := clock.New(n)
		for _, i := range hosts {
			for _, r := range rates {
				there := i >= 0 && i < c.Len()
				if code := c.Set(i, r); (code == api.OK) != there {
					t.Errorf("Set(%d, %v) of %d clocks = %d", i, r, c.Len(), code)
				}
			}
			for _, p := range append([]int{1, 2, 999, 1000}, wrongPasses...) {
				moves, code := c.Pass(p)
				fits := p >= 1 && p <= api.MaxPass
				if (code == api.OK) != fits || fits && len(moves) != c.Len() {
					t.Errorf("Pass(%d) of %d clocks = %v, %d", p, c.Len(), moves, code)
				}
			}
		}
	}
}

func TestZeroClocksAreNone(t *testing.T) {
	var c clock.Clocks
	if code := c.Set(0, 1); code != api.ErrNone {
		t.Errorf("Set(0, 1) = %d; want ErrNone", code)
	}
	wantPass(t, &c, 3)
	wantSeen(t, &c, 3, 0)
}

// R4

func TestMovesAreNewMemory(t *testing.T) {
	c := clock.New(3)
	set(t, c, 1, 2, 0.5)
	first, _ := c.Pass(4)
	all := first[:cap(first)]
	for i := range all {
		all[i] = -77
	}
	wantSeen(t, c, 4, 1000, 4, 8, 2)
	second, _ := c.Pass(4)
	third, _ := c.Pass(6)
	if !slices.Equal(second, []int{4, 8, 2}) || !slices.Equal(third, []int{6, 12, 3}) {
		t.Errorf("moves are %v and %v", second, third)
	}
	for _, x := range all {
		if x != -77 {
			t.Errorf("a later Pass wrote to the first one's moves: %v", all)
		}
	}
	_ = append(second[:0], 9, 9, 9)
	if !slices.Equal(third, []int{6, 12, 3}) {
		t.Errorf("moves share memory: %v", third)
	}
	wantSeen(t, c, 14, 1000, 14, 28, 7)
}

// R5

func TestRefusedCallsChangeNothing(t *testing.T) {
	c := clock.New(3)
	set(t, c, 1.5, 0.25, 1)
	c.Pass(100)
	before := look(c)
	for _, n := range wrongPasses {
		if moves, code := c.Pass(n); code != api.ErrArg || len(moves) != 0 {
			t.Errorf("Pass(%d) = %v, %d; want none, ErrArg", n, moves, code)
		}
	}
	for _, i := range wrongClocks(3) {
		for _, r := range rates {
			if code := c.Set(i, r); code != api.ErrNone {
				t.Errorf("Set(%d, %v) = %d; want ErrNone", i, r, code)
			}
		}
	}
	if after := look(c); !after.equal(before) {
		t.Errorf("refused calls turned %+v into %+v", before, after)
	}
	wantPass(t, c, 8, 12, 2, 8)
}

// R6

func TestNilClocks(t *testing.T) {
	var c *clock.Clocks
	for _, n := range append([]int{1, 5, api.MaxPass}, wrongPasses...) {
		if moves, code := c.Pass(n); code != api.ErrNone || len(moves) != 0 {
			t.Errorf("Pass(%d) of nil = %v, %d; want none, ErrNone", n, moves, code)
		}
	}
	for _, i := range append([]int{0, 1, 2}, wrongClocks(3)...) {
		for _, r := range rates {
			if code := c.Set(i, r); code != api.ErrNone {
				t.Errorf("Set(%d, %v) of nil = %d; want ErrNone", i, r, code)
			}
		}
		if got := c.Now(i); got != 0 {
			t.Errorf("Now(%d) of nil = %d; want 0", i, got)
		}
	}
	wantSeen(t, c, 0, 0)
}
