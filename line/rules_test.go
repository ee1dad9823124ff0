package line_test

import (
	"math"
	"slices"
	"strings"
	"testing"

	"padlock/api"
	"padlock/line"
)

// wrongLines returns lines that are not right, of many lengths.
func wrongLines() []row {
	return []row{
		{-1},
		{8},
		{4, 4},
		{math.MinInt, math.MaxInt},
		{4, 1, 4},
		{4, 4, 4},
		{-1, 4, 8},
		{9, 4, 2},
		{0, 1, 2, 3},
		{4, 4, 1, 1},
		{0, 1, 2, 3, 4, 5, 6, 7},
		make(row, 1000),
	}
}

// someGone returns lists of who is gone: none, one, some, all, who is no
// client, and the same one twice.
func someGone() []row {
	return []row{nil, {}, {4}, {1, 1}, {2, 4}, {7, 6, 5, 4, 3, 2, 1, 0}, {3, -1, 8, 0, 3}, noClients}
}

// eachCall calls f with each call on a line, which tells all that it returns
// as one list: what a number or a truth tells stands behind the line.
func eachCall(f func(call func(l row) row)) {
	told := func(l row, n int, ok bool) row {
		if ok {
			return append(slices.Clone(l), n, 1)
		}
		return append(slices.Clone(l), n, 0)
	}
	f(func(l row) row { return told(nil, 0, line.Right(l)) })
	f(func(l row) row { client, rest, ok := line.Next(l); return told(rest, client, ok) })
	for _, client := range anyone() {
		f(func(l row) row { n, ok := line.Ahead(l, client); return told(nil, n, ok) })
		f(func(l row) row { x, n, code := line.Join(l, client); return append(told(x, n, true), int(code)) })
		f(func(l row) row { x, ok := line.Leave(l, client); return told(x, 0, ok) })
	}
	for _, gone := range someGone() {
		f(func(l row) row { return line.Without(l, gone...) })
	}
}

// The models say what the chapter says in another way than the package does:
// of right lines, which they write as texts, a digit a client.

func text(l row) string {
	var b strings.Builder
	for _, client := range l {
		b.WriteByte(byte('0' + client))
	}
	return b.String()
}

func untext(s string) (l row) {
	for i := range len(s) {
		l = append(l, int(s[i]-'0'))
	}
	return l
}

// digit returns what stands for a client, or what no text has.
func digit(client int) string {
	if client < 0 || client > 7 {
		return "x"
	}
	return text(row{client})
}

func modelAhead(l row, client int) (int, bool) {
	before, _, ok := strings.Cut(text(l), digit(client))
	if !ok {
		return 0, false
	}
	return len(before), true
}

func modelJoin(l row, client int) (row, int, api.Errno) {
	s, d := text(l), digit(client)
	switch {
	case d == "x":
		return nil, 0, api.ErrArg
	case strings.Contains(s, d):
		return nil, 0, api.ErrTwice
	case len(s) == 3:
		return nil, 0, api.ErrFull
	}
	return untext(s + d), len(s), api.OK
}

func modelLeave(l row, client int) (row, bool) {
	s, d := text(l), digit(client)
	return untext(strings.ReplaceAll(s, d, "")), strings.Contains(s, d)
}

func modelWithout(l, gone row) row {
	s := text(l)
	for _, client := range gone {
		s = strings.ReplaceAll(s, digit(client), "")
	}
	return untext(s)
}

// R2, R3: of all right lines and with numbers of all kinds, the first error
// that applies, beside which all else is zero, as it is beside false.
func TestCallsOfAnything(t *testing.T) {
	for _, l := range eachLine() {
		for _, client := range anyone() {
			at, in := modelAhead(l, client)
			wantAhead(t, l, client, at, in)
			more, n, code := modelJoin(l, client)
			wantJoin(t, l, client, more, n, code)
			rest, left := modelLeave(l, client)
			wantLeave(t, l, client, rest, left)
		}
		for _, gone := range someGone() {
			wantWithout(t, l, gone, modelWithout(l, gone))
		}
	}
}

// What is right stays right, whatever is done to it.
func TestLinesStayRight(t *testing.T) {
	for _, l := range eachLine() {
		_, rest, _ := line.Next(l)
		wantRight(t, rest, true)
		for _, client := range anyone() {
			more, _, _ := line.Join(l, client)
			wantRight(t, more, true)
			less, _ := line.Leave(l, client)
			wantRight(t, less, true)
		}
		for _, gone := range someGone() {
			wantRight(t, line.Without(l, gone...), true)
		}
	}
}

// R1: lines that are not right make no call panic, nor do long ones.
func TestWrongLines(t *testing.T) {
	for _, l := range wrongLines() {
		wantRight(t, l, false)
		eachCall(func(call func(l row) row) { call(l) })
	}
	long := make(row, 1<<16)
	wantRight(t, long, false)
	eachCall(func(call func(l row) row) { call(long) })
}

// R1: what is told hangs on the arguments alone, and of a line on its clients.
func TestSameArgumentsSameResults(t *testing.T) {
	for _, l := range append(eachLine(), wrongLines()...) {
		roomy := append(make(row, 0, len(l)+9), l...)
		eachCall(func(call func(l row) row) {
			first, second, third := call(l), call(slices.Clip(l)), call(roomy)
			if !slices.Equal(first, second) || !slices.Equal(first, third) {
				t.Errorf("of the same line %v a call tells %v, %v and %v", l, first, second, third)
			}
		})
	}
}

// R3: a nil line and an empty one are the same, and so are nil and empty lists
// of who is gone.
func TestNilAndEmptyLines(t *testing.T) {
	eachCall(func(call func(l row) row) {
		if first, second := call(nil), call(row{}); !slices.Equal(first, second) {
			t.Errorf("of a nil line a call tells %v, of an empty one %v", first, second)
		}
	})
	for _, l := range eachLine() {
		if first, second, third := line.Without(l), line.Without(l, nil...), line.Without(l, row{}...); !slices.Equal(first, second) || !slices.Equal(first, third) {
			t.Errorf("without none of it, %v is %v, %v and %v", l, first, second, third)
		}
	}
}

// R4, R5: no call changes the line that it is handed, nor what lies behind its
// end, whatever the code is.
func TestLinesStay(t *testing.T) {
	for _, l := range append(eachLine(), wrongLines()...) {
		whole := append(slices.Clone(l), 5, -1, 9, 0, 5)
		before := slices.Clone(whole)
		eachCall(func(call func(l row) row) { call(whole[:len(l)]) })
		if !slices.Equal(whole, before) {
			t.Errorf("calls turned %v into %v", before, whole)
		}
	}
}

// R4: the same of who is gone.
func TestGoneStay(t *testing.T) {
	for _, l := range eachLine() {
		for _, gone := range someGone() {
			whole := append(slices.Clone(gone), 5, -1, 9, 0, 5)
			before := slices.Clone(whole)
			line.Without(l, whole[:len(gone)]...)
			if !slices.Equal(whole, before) {
				t.Errorf("Without turned %v into %v", before, whole)
			}
		}
	}
}

// makers returns all calls that return a line.
func makers() []func(l row) row {
	all := []func(l row) row{func(l row) row { _, rest, _ := line.Next(l); return rest }}
	for _, client := range anyone() {
		all = append(all,
			func(l row) row { more, _, _ := line.Join(l, client); return more },
			func(l row) row { rest, _ := line.Leave(l, client); return rest })
	}
	for _, gone := range someGone() {
		all = append(all, func(l row) row { return line.Without(l, gone...) })
	}
	return all
}

// scrawl writes into all of l and into its spare capacity.
func scrawl(l row) {
	all := l[:cap(l)]
	for i := range all {
		all[i] = -7
	}
}

// R4: whoever writes into the line that was handed in, or behind its end,
// changes no result.
func TestLinesAreNotRetained(t *testing.T) {
	for _, l := range eachLine() {
		for i, call := range makers() {
			mine := append(slices.Clone(l), 5, -1, 9)[:len(l)]
			got := call(mine)
			want := slices.Clone(got)
			scrawl(mine)
			if !slices.Equal(got, want) {
				t.Errorf("call %d: writing into %v turned the result from %v into %v", i, l, want, got)
			}
		}
	}
}

// R4: the same of who is gone.
func TestGoneAreNotRetained(t *testing.T) {
	for _, l := range eachLine() {
		for _, gone := range someGone() {
			mine := slices.Clone(gone)
			got := line.Without(l, mine...)
			want := slices.Clone(got)
			scrawl(mine)
			if !slices.Equal(got, want) {
				t.Errorf("writing into %v turned the result from %v into %v", gone, want, got)
			}
		}
	}
}

// R4: whoever writes into a result, and into its spare capacity, changes
// neither the line that was handed in nor any other result.
func TestResultsAreNewMemory(t *testing.T) {
	for _, l := range eachLine() {
		for i, call := range makers() {
			whole := append(slices.Clone(l), 5, -1, 9)
			before := slices.Clone(whole)
			mine := whole[:len(l)]
			first, second := call(mine), call(mine)
			want := slices.Clone(second)
			scrawl(first)
			scrawl(second[len(second):])
			if !slices.Equal(second, want) {
				t.Errorf("call %d: writing into the first result turned the second from %v into %v", i, want, second)
			}
			if !slices.Equal(whole, before) {
				t.Errorf("call %d: writing into a result turned the line handed in from %v into %v", i, before, whole)
			}
			if third := call(mine); !slices.Equal(third, want) {
				t.Errorf("call %d: writing into the first result turned the third from %v into %v", i, want, third)
			}
		}
	}
}

// R4: a line that is joined by two comes apart: neither result has the other's client.
func TestOneLineIsJoinedTwice(t *testing.T) {
	for _, l := range eachLine() {
		roomy := append(make(row, 0, 9), l...)
		first, _, code := line.Join(roomy, 6)
		second, _, other := line.Join(roomy, 5)
		if code != api.OK || other != api.OK {
			continue
		}
		if !slices.Equal(first, append(slices.Clone(l), 6)) || !slices.Equal(second, append(slices.Clone(l), 5)) {
			t.Errorf("%v, joined by 6 and by 5, is %v and %v", l, first, second)
		}
	}
}

// R4: what Without makes is not the memory of who is gone.
func TestWithoutIsNotTheMemoryOfGone(t *testing.T) {
	for _, l := range eachLine() {
		for _, gone := range someGone() {
			whole := append(slices.Clone(gone), 5, -1, 9)
			before := slices.Clone(whole)
			scrawl(line.Without(l, whole[:len(gone)]...))
			if !slices.Equal(whole, before) {
				t.Errorf("writing into a result turned who is gone from %v into %v", before, whole)
			}
		}
	}
}
