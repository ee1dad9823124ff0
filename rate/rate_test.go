package rate_test

import (
	"math"
	"math/big"
	"slices"
	"testing"

	"padlock/api"
	"padlock/rate"
)

const (
	tiny  = math.SmallestNonzeroFloat64
	great = math.MaxFloat64
	most  = 1 << 31 // the most that Within compares
)

var (
	nan     = math.NaN()
	inf     = math.Inf(1)
	negZero = math.Copysign(0, -1)
)

// rates are numbers of all kinds, ascending, with -0 ahead of +0.
var rates = []float64{
	-inf, -great, -17, -16, -1.5, -1, -0.5, -0x1p-1022, -tiny, negZero,
	0, tiny, 0x1p-1022, 0.001, 0.25, 0.29, 0.3, 0.5, 0.7, math.Nextafter(1, 0),
	1, math.Nextafter(1, 2), 1.1, 1.37, 1.5, 2, 3.3, math.Nextafter(16, 0),
	16, math.Nextafter(16, 17), 17, 1e300, great, inf,
}

// ints are numbers at the edges of what is passed, compared and held.
var ints = []int{
	math.MinInt, math.MinInt + 1, -most - 1, -most, -1001, -1, 0, 1, 2, 999, api.MaxPass, api.MaxPass + 1,
	most - 1, most, most + 1, api.High, math.MaxInt - 1, math.MaxInt,
}

// same tells whether two floats have the same bits, so that zeros are told
// apart by their signs; one NaN is as good as another.
func same(x, y float64) bool {
	return math.IsNaN(x) && math.IsNaN(y) || math.Float64bits(x) == math.Float64bits(y)
}

// 2.1

func TestClean(t *testing.T) {
	for _, c := range []struct{ r, want float64 }{
		{nan, 0},
		{-nan, 0},
		{math.Float64frombits(0x7ff0000000000001), 0},
		{math.Float64frombits(0xffffffffffffffff), 0},
		{-inf, 0},
		{-great, 0},
		{-16, 0},
		{-1, 0},
		{-0.5, 0},
		{-tiny, 0},
		{negZero, 0},
		{0, 0},
		{tiny, tiny},
		{0x1p-1022, 0x1p-1022},
		{0.25, 0.25},
		{math.Nextafter(1, 0), math.Nextafter(1, 0)},
		{1, 1},
		{1.1, 1.1},
		{15.5, 15.5},
		{math.Nextafter(api.MaxRate, 0), math.Nextafter(api.MaxRate, 0)},
		{api.MaxRate, api.MaxRate},
		{math.Nextafter(api.MaxRate, inf), api.MaxRate},
		{17, api.MaxRate},
		{great, api.MaxRate},
		{inf, api.MaxRate},
	} {
		if got := rate.Clean(c.r); !same(got, c.want) {
			t.Errorf("Clean(%v) = %v; want %v", c.r, got, c.want)
		}
	}
}

func TestCleanOfCleanIsTheSame(t *testing.T) {
	for _, r := range append([]float64{nan}, rates...) {
		once := rate.Clean(r)
		if twice := rate.Clean(once); !same(once, twice) {
			t.Errorf("Clean(%v) = %v; Clean of that = %v", r, once, twice)
		}
	}
}

func TestMove(t *testing.T) {
	for _, c := range []struct {
		r       float64
		n, want int
	}{
		{1.5, 3, 4},
		{0.5, 0, 0},
		{0.5, 1, 0},
		{0.5, 2, 1},
		{1, 7, 7},
		{2, 5, 10},
		{math.Nextafter(1, 0), 1, 0},
		{math.Nextafter(1, 0), 1000, 999},
		{math.Nextafter(1, 2), 1000, 1000},
		{1.9999, 1, 1},
		{0.999, 1000, 999},
		{0.0009, 1000, 0},
		{0.001, 1000, 1},
		{tiny, api.MaxPass, 0},
	} {
		if got := rate.Move(c.r, c.n); got != c.want {
			t.Errorf("Move(%v, %d) = %d; want %d", c.r, c.n, got, c.want)
		}
	}
}

func TestMoveCleansTheRate(t *testing.T) {
	for _, c := range []struct {
		r       float64
		n, want int
	}{
		{nan, 5, 0},
		{-inf, 5, 0},
		{-great, 5, 0},
		{-3, 5, 0},
		{-0.5, 1, 0},
		{-tiny, 5, 0},
		{negZero, 5, 0},
		{0, 5, 0},
		{math.Nextafter(api.MaxRate, 0), 1, 15},
		{api.MaxRate, 1, 16},
		{math.Nextafter(api.MaxRate, inf), 1, 16},
		{17, 1, 16},
		{great, 3, 48},
		{inf, 1, 16},
		{inf, api.MaxPass, 16000},
		{inf, 0, 0},
		{nan, 0, 0},
	} {
		if got := rate.Move(c.r, c.n); got != c.want {
			t.Errorf("Move(%v, %d) = %d; want %d", c.r, c.n, got, c.want)
		}
	}
}

func TestMoveClampsWhatPasses(t *testing.T) {
	for _, n := range []int{math.MinInt, math.MinInt + 1, -most, -1000, -2, -1, 0} {
		for _, r := range []float64{0.5, 1, 2, 16, inf} {
			if got := rate.Move(r, n); got != 0 {
				t.Errorf("Move(%v, %d) = %d; want 0", r, n, got)
			}
		}
	}
	if got := rate.Move(2, api.MaxPass-1); got != 1998 {
		t.Errorf("Move(2, MaxPass-1) = %d; want 1998", got)
	}
	for _, n := range []int{api.MaxPass, api.MaxPass + 1, 5000, most, 1 << 53, math.MaxInt - 1, math.MaxInt} {
		if got := rate.Move(2, n); got != 2000 {
			t.Errorf("Move(2, %d) = %d; want 2000", n, got)
		}
		if got := rate.Move(api.MaxRate, n); got != 16000 {
			t.Errorf("Move(MaxRate, %d) = %d; want 16000", n, got)
		}
		if got := rate.Move(1.0/3, n); got != 333 {
			t.Errorf("Move(1/3, %d) = %d; want 333", n, got)
		}
	}
}

// The float64 product counts, not the exact one: 0.3 and 0.7 are a little less
// than they look, but ten of them are 3 and 7; a hundred of 0.29 aren't 29.
func TestMoveTakesTheProductOfFloats(t *testing.T) {
	for _, c := range []struct {
		r       float64
		n, want int
	}{{0.3, 10, 3}, {0.7, 10, 7}, {0.29, 100, 28}, {0.57, 100, 56}, {1.1, 10, 11}} {
		if got := rate.Move(c.r, c.n); got != c.want {
			t.Errorf("Move(%v, %d) = %d; want %d", c.r, c.n, got, c.want)
		}
	}
	for _, r := range rates {
		if rate.Clean(r) != r {
			continue
		}
		for n := range api.MaxPass + 1 {
			product := new(big.Float).SetPrec(53).Mul(big.NewFloat(r), big.NewFloat(float64(n)))
			floor, _ := product.Int64()
			if got := rate.Move(r, n); got != int(floor) {
				t.Errorf("Move(%v, %d) = %d; want %d", r, n, got, floor)
			}
		}
	}
}

// 2.2

func TestWithin(t *testing.T) {
	for _, c := range []struct {
		n, move, rho int
		want         bool
	}{
		{1000, 1100, 100, true},
		{1000, 1101, 100, false},
		{1000, 900, 100, true},
		{1000, 899, 100, false},
		{999, 1099, 100, false},
		{1000, 1000, 0, true},
		{1000, 1001, 0, false},
		{1000, 999, 0, false},
		{1000, 1001, 1, true},
		{1000, 999, 1, true},
		{999, 1000, 1, false},
		{5, 0, 1000, true},
		{5, 0, 999, false},
		{5, 10, 1000, true},
		{5, 11, 1000, false},
		{5, 10, 999, false},
		{0, 0, 0, true},
		{0, 0, 1000, true},
		{0, 1, 0, false},
		{0, 1, 1000, false},
		{0, most, 1000, false},
		{1, 1, 0, true},
		{7, 8, 142, false},
		{7, 8, 143, true},
	} {
		if got := rate.Within(c.n, c.move, c.rho); got != c.want {
			t.Errorf("Within(%d, %d, %d) = %t", c.n, c.move, c.rho, got)
		}
	}
}

func TestWithinAtItsLimits(t *testing.T) {
	for _, c := range []struct {
		n, move, rho int
		want         bool
	}{
		{most, most, 0, true},
		{most, most - 1, 0, false},
		{most - 1, most, 0, false},
		{most - 1, most, 1, true},
		{most, most - 2147483, 1, true},
		{most, most - 2147484, 1, false},
		{most / 2, most, 1000, true},
		{most/2 - 1, most, 1000, false},
		{most, 0, 1000, true},
		{most, 0, 999, false},
		// outside, where the differences alone would do
		{most + 1, most, 1000, false},
		{most + 1, most + 1, 0, false},
		{most, most + 1, 1000, false},
		{1 << 32, 1 << 32, 0, false},
		{-1, -1, 0, false},
		{-1, -1, 1000, false},
		{-1, 0, 1000, false},
		{5, -1, 1000, false},
		{0, -1, 1000, false},
		{5, 5, -1, false},
		{0, 0, -1, false},
		{5, 5, 1001, false},
		{0, 0, 1001, false},
		{5, 5, 1000, true},
		{5, 5, 0, true},
	} {
		if got := rate.Within(c.n, c.move, c.rho); got != c.want {
			t.Errorf("Within(%d, %d, %d) = %t", c.n, c.move, c.rho, got)
		}
	}
}

// within is what 2.2 asks, in numbers that have no greatest one.
func within(n, move, rho int) bool {
	if n < 0 || n > most || move < 0 || move > most || rho < 0 || rho > 1000 {
		return false
	}
	off := new(big.Int).Sub(big.NewInt(int64(move)), big.NewInt(int64(n)))
	left := off.Abs(off).Mul(off, big.NewInt(1000))
	right := new(big.Int).Mul(big.NewInt(int64(rho)), big.NewInt(int64(n)))
	return left.Cmp(right) <= 0
}

func TestWithinOfAnything(t *testing.T) {
	rhos := append([]int{500, 998, 1002}, ints...)
	for _, n := range ints {
		for _, move := range ints {
			for _, rho := range rhos {
				if got := rate.Within(n, move, rho); got != within(n, move, rho) {
					t.Errorf("Within(%d, %d, %d) = %t", n, move, rho, got)
				}
			}
		}
	}
	for n := range 30 {
		for move := range 70 {
			for rho := -1; rho <= 1001; rho++ {
				if got := rate.Within(n, move, rho); got != within(n, move, rho) {
					t.Errorf("Within(%d, %d, %d) = %t", n, move, rho, got)
				}
			}
		}
	}
}

func TestOf(t *testing.T) {
	for _, c := range []struct {
		n, move int
		want    float64
	}{
		{4, 6, 1.5},
		{6, 4, 4.0 / 6},
		{3, 1, 1.0 / 3},
		{1, 1, 1},
		{-4, 6, -1.5},
		{4, -6, -1.5},
		{-4, -6, 1.5},
		{1, 0, 0},
		{math.MaxInt, 0, 0},
		{-1, 0, negZero},
		{math.MinInt, 0, negZero},
		{0, 0, nan},
		{0, 1, inf},
		{0, math.MaxInt, inf},
		{0, -1, -inf},
		{0, math.MinInt, -inf},
		{1, math.MinInt, -0x1p63},
		{math.MinInt, math.MinInt, 1},
		// each of the two is made a float64 ahead of the division
		{1, 1<<53 + 1, 0x1p53},
		{1<<53 + 1, 1 << 53, 1},
		{3, 1<<53 + 1, 0x1p53 / 3},
		{math.MaxInt, math.MinInt, -1},
		{math.MinInt, math.MaxInt, -1},
	} {
		if got := rate.Of(c.n, c.move); !same(got, c.want) {
			t.Errorf("Of(%d, %d) = %v; want %v", c.n, c.move, got, c.want)
		}
	}
}

func TestFar(t *testing.T) {
	for _, c := range []struct {
		rs   []float64
		want float64
	}{
		{[]float64{1, 1.5, 0.75}, 0.5},
		{[]float64{1, 1.5, 0.25}, 0.75},
		{[]float64{1}, 0},
		{[]float64{1, 1, 1}, 0},
		{[]float64{0}, 1},
		{[]float64{negZero}, 1},
		{[]float64{2}, 1},
		{[]float64{-1}, 2},
		{[]float64{3, -2}, 3},
		{[]float64{-2, 3}, 3},
		{[]float64{tiny}, 1},
		{[]float64{-tiny}, 1},
		{[]float64{math.Nextafter(1, 2)}, 0x1p-52},
		{[]float64{math.Nextafter(1, 0)}, 0x1p-53},
		{[]float64{1, math.Nextafter(1, 0), 1}, 0x1p-53},
		{[]float64{api.MaxRate}, 15},
		{[]float64{great}, great},
		{[]float64{-great}, great},
		{[]float64{inf}, inf},
		{[]float64{-inf}, inf},
		{[]float64{3, -inf, great}, inf},
	} {
		if got := rate.Far(c.rs...); !same(got, c.want) {
			t.Errorf("Far(%v) = %v; want %v", c.rs, got, c.want)
		}
	}
}

func TestFarWithoutArguments(t *testing.T) {
	for _, got := range []float64{rate.Far(), rate.Far(nil...), rate.Far([]float64{}...), rate.Far([]float64{nan, 3}[:0]...)} {
		if !same(got, 0) {
			t.Errorf("Far() = %v; want +0", got)
		}
	}
}

// NaN wins at every place, and over the infinities too.
func TestFarOfNaN(t *testing.T) {
	for _, n := range []float64{nan, math.Float64frombits(0xfff8000000000001)} {
		for _, others := range [][]float64{{}, {1}, {0, 2}, {inf}, {-inf, 3}, {inf, -inf}, {nan}, {great, negZero, 1}} {
			for at := range len(others) + 1 {
				rs := slices.Insert(slices.Clone(others), at, n)
				if got := rate.Far(rs...); !math.IsNaN(got) {
					t.Errorf("Far(%v) = %v; want NaN", rs, got)
				}
			}
		}
	}
}

func TestFarIsTheGreatestOfEach(t *testing.T) {
	for _, a := range rates {
		for _, b := range rates {
			want := rate.Far(a)
			if other := rate.Far(b); other > want {
				want = other
			}
			if got := rate.Far(a, b); !same(got, want) {
				t.Errorf("Far(%v, %v) = %v; want %v", a, b, got, want)
			}
			if got := rate.Far(1, a, 1, b, 1); !same(got, want) {
				t.Errorf("Far(1, %v, 1, %v, 1) = %v; want %v", a, b, got, want)
			}
		}
	}
}

// 2.3

func TestWithRate1AClockAdvancesByWhatPasses(t *testing.T) {
	for n := range api.MaxPass + 1 {
		if got := rate.Move(1, n); got != n {
			t.Errorf("Move(1, %d) = %d", n, got)
		}
	}
}

func TestIfMorePassesMoveIsNeverLess(t *testing.T) {
	for _, r := range append([]float64{nan}, rates...) {
		last := rate.Move(r, math.MinInt)
		for n := -3; n <= api.MaxPass+3; n++ {
			got := rate.Move(r, n)
			if got < last {
				t.Errorf("Move(%v, %d) = %d; %d passed before", r, n, got, last)
			}
			last = got
		}
		if got := rate.Move(r, math.MaxInt); got < last {
			t.Errorf("Move(%v, MaxInt) = %d; %d passed before", r, got, last)
		}
	}
}

func TestIfTheRateIsGreaterMoveIsNeverLess(t *testing.T) {
	for n := -1; n <= api.MaxPass+1; n++ {
		last := 0
		for _, r := range rates {
			got := rate.Move(r, n)
			if got < last {
				t.Errorf("Move(%v, %d) = %d; a lesser rate gives %d", r, n, got, last)
			}
			last = got
		}
		for step := range 17 * 64 {
			r := float64(step) / 64
			if got, next := rate.Move(r, n), rate.Move(r+1.0/64, n); next < got {
				t.Errorf("Move(%v, %d) = %d; a greater rate gives %d", r, n, got, next)
			}
		}
	}
}

// R1

// Whatever they are given, the calls end, and twice with the same result.
func TestCallsOfAnything(t *testing.T) {
	all := append([]float64{nan, -nan}, rates...)
	for _, r := range all {
		clean := rate.Clean(r)
		if !(clean >= 0 && clean <= api.MaxRate) || math.Signbit(clean) || !same(rate.Clean(r), clean) {
			t.Errorf("Clean(%v) = %v", r, clean)
		}
		for _, n := range ints {
			move := rate.Move(r, n)
			if move < 0 || move > api.MaxRate*api.MaxPass || rate.Move(r, n) != move {
				t.Errorf("Move(%v, %d) = %d", r, n, move)
			}
		}
		for _, s := range all {
			far := rate.Far(r, s)
			if math.Signbit(far) && !math.IsNaN(far) || !same(rate.Far(r, s), far) {
				t.Errorf("Far(%v, %v) = %v", r, s, far)
			}
		}
	}
	for _, n := range ints {
		for _, move := range ints {
			if of := rate.Of(n, move); !same(rate.Of(n, move), of) {
				t.Errorf("Of(%d, %d) is %v only once", n, move, of)
			}
		}
	}
}

// R4

func TestFarLeavesItsArguments(t *testing.T) {
	held := []float64{3, negZero, nan, -2, inf, 1, 7, nan}
	before := slices.Clone(held)
	rate.Far(held[:5]...)
	rate.Far(held[3:5]...)
	rate.Far(held[:0]...)
	for i := range held {
		if !same(held[i], before[i]) {
			t.Errorf("Far turned argument %d from %v into %v", i, before[i], held[i])
		}
	}
}

func TestFarDoesNotRetainItsArguments(t *testing.T) {
	rs := []float64{5, 2}
	first := rate.Far(rs...)
	rs[0], rs[1] = nan, inf
	if first != 4 {
		t.Errorf("Far(5, 2) = %v", first)
	}
	if got := rate.Far(1.5); got != 0.5 {
		t.Errorf("Far(1.5) = %v after other arguments", got)
	}
	if got := rate.Far(); !same(got, 0) {
		t.Errorf("Far() = %v after other arguments", got)
	}
}
