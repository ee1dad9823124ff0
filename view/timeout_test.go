package view_test

import (
	"math"
	"math/big"
	"testing"

	"padlock/api"
	"padlock/view"
)

// setting is a base and a most.
type setting struct{ base, most int }

// settings may be, from the smallest to the greatest, those with one base and
// those with one most next to each other among them.
func settings() []setting {
	var all []setting
	for _, most := range []int{1, 2, 3, 7, 8, 9, 30, 1023, 1024, 1025, 524287, 524288, 524289, 999999, 1000000} {
		for _, base := range []int{1, 2, 3, 5, 7, 8, 1000, most / 2, most/2 + 1, most - 1, most} {
			if base >= 1 && base <= most {
				all = append(all, setting{base, most})
			}
		}
	}
	return all
}

// noSettings may not be: by their base, their most, or both.
func noSettings() []setting {
	all := []setting{
		{0, 0}, {1, 0}, {0, 1}, {2, 1}, {31, 30}, {1000001, 1000000}, {6, 5},
		{1, 1000001}, {1000000, 1000001}, {1000001, 1000001},
		{-5, 30}, {-30, -5}, {-5, -5}, {-5, -30}, {1, -1}, {5, -30},
		{api.High, api.High}, {1, api.High}, {1 << 62, 1 << 62}, {1 << 32, 1 << 33},
	}
	for _, far := range []int{math.MinInt, math.MinInt + 1, math.MaxInt - 1, math.MaxInt} {
		all = append(all, setting{far, 30}, setting{5, far}, setting{far, far}, setting{-far, far}, setting{0, far})
	}
	for _, s := range settings() {
		all = append(all, setting{0, s.most}, setting{-s.base, s.most}, setting{s.most + 1, s.most}, setting{s.base, s.base - 1})
	}
	return all
}

// model is base times 2 to the power of v, but at most most. From 2^64 on, that
// is most, whatever v is.
func model(s setting, v int) int {
	ticks := new(big.Int).Lsh(big.NewInt(int64(s.base)), uint(min(v, 64)))
	if most := big.NewInt(int64(s.most)); ticks.Cmp(most) > 0 {
		return s.most
	}
	return int(ticks.Int64())
}

// least is the first view that lasts for need, looked for among those that
// differ: the 20th doubling of 1 is above the greatest most that there is.
func least(s setting, need int) (int, bool) {
	for v := range 21 {
		if model(s, v) >= need {
			return v, true
		}
	}
	return 0, false
}

func wantTimeout(t *testing.T, s setting, v, want int) {
	t.Helper()
	if got := view.Timeout(s.base, s.most, v); got != want {
		t.Errorf("Timeout(%d, %d, %d) = %d; want %d", s.base, s.most, v, got, want)
	}
}

func wantReach(t *testing.T, s setting, need, want int, wantOK bool) {
	t.Helper()
	if got, ok := view.Reach(s.base, s.most, need); got != want || ok != wantOK {
		t.Errorf("Reach(%d, %d, %d) = %d, %v; want %d, %v", s.base, s.most, need, got, ok, want, wantOK)
	}
}

// 13.3: Timeout

func TestTimeout(t *testing.T) {
	for _, row := range []struct {
		s    setting
		want []int
	}{
		{setting{5, 30}, []int{5, 10, 20, 30, 30, 30}},
		{setting{5, 39}, []int{5, 10, 20, 39, 39}},
		{setting{5, 40}, []int{5, 10, 20, 40, 40}},
		{setting{5, 41}, []int{5, 10, 20, 40, 41, 41}},
		{setting{1, 1}, []int{1, 1, 1}},
		{setting{1, 2}, []int{1, 2, 2}},
		{setting{1, 3}, []int{1, 2, 3, 3}},
		{setting{7, 7}, []int{7, 7, 7}},
		{setting{1000000, 1000000}, []int{1000000, 1000000}},
		{setting{999999, 1000000}, []int{999999, 1000000, 1000000}},
		{setting{500000, 1000000}, []int{500000, 1000000, 1000000}},
		{setting{499999, 1000000}, []int{499999, 999998, 1000000}},
	} {
		for v, want := range row.want {
			wantTimeout(t, row.s, v, want)
		}
		wantTimeout(t, row.s, api.High, row.s.most)
	}
	wantTimeout(t, setting{1, 1000000}, 18, 262144)
	wantTimeout(t, setting{1, 1000000}, 19, 524288)
	wantTimeout(t, setting{1, 1000000}, 20, 1000000)
	wantTimeout(t, setting{1, 1000000}, 21, 1000000)
}

func TestTimeoutAsModel(t *testing.T) {
	for _, s := range settings() {
		for v := range 70 {
			wantTimeout(t, s, v, model(s, v))
		}
		for _, v := range append(views(), 127, 128, 255, 256, 1<<31, 1<<32, 1<<32+1, 1<<60, 1<<60+1) {
			wantTimeout(t, s, v, model(s, v))
		}
	}
}

func TestTimeoutOfNoViews(t *testing.T) {
	for _, s := range append(settings(), noSettings()...) {
		for _, v := range noViews {
			wantTimeout(t, s, v, 0)
		}
	}
}

func TestTimeoutOfNoSettings(t *testing.T) {
	for _, s := range noSettings() {
		for _, v := range views() {
			wantTimeout(t, s, v, 0)
		}
	}
}

// 13.3: Reach

func TestReach(t *testing.T) {
	for need, want := range map[int]int{
		math.MinInt: 0, -1: 0, 0: 0, 1: 0, 4: 0, 5: 0,
		6: 1, 9: 1, 10: 1,
		11: 2, 19: 2, 20: 2,
		21: 3, 29: 3, 30: 3,
	} {
		wantReach(t, setting{5, 30}, need, want, true)
	}
	for _, need := range []int{31, 32, 40, 41, 1000001, api.High, math.MaxInt} {
		wantReach(t, setting{5, 30}, need, 0, false)
	}
	wantReach(t, setting{5, 40}, 40, 3, true)
	wantReach(t, setting{5, 41}, 41, 4, true)
	wantReach(t, setting{1, 1000000}, 524288, 19, true)
	wantReach(t, setting{1, 1000000}, 524289, 20, true)
	wantReach(t, setting{1, 1000000}, 1000000, 20, true)
	wantReach(t, setting{1, 1000000}, 1000001, 0, false)
	wantReach(t, setting{7, 7}, 7, 0, true)
	wantReach(t, setting{7, 7}, 8, 0, false)
}

func TestReachAsModel(t *testing.T) {
	for _, s := range settings() {
		needs := []int{math.MinInt, math.MinInt + 1, -api.High, -1, 0, 1, s.base - 1, s.base, s.base + 1, 1000000, 1000001, api.High, 1 << 62, math.MaxInt - 1, math.MaxInt}
		for v := range 22 {
			last := model(s, v)
			needs = append(needs, last-1, last, last+1, last+last/2)
		}
		for _, need := range needs {
			want, wantOK := least(s, need)
			wantReach(t, s, need, want, wantOK)
		}
	}
}

// Where Timeout is 0 for all views none is reached, not even for a need that 0 meets.
func TestReachOfNoSettings(t *testing.T) {
	for _, s := range noSettings() {
		for _, need := range []int{math.MinInt, -30, -1, 0, 1, 5, 30, s.base, s.most, 1000000, math.MaxInt} {
			wantReach(t, s, need, 0, false)
		}
	}
}
