package reconstruct_test

import (
	"math"
	"slices"
	"testing"

	"viator/api"
	"viator/draws"
	"viator/intake"
	"viator/rational"
	"viator/reconstruct"
)

func TestP28_1CheckSettings(t *testing.T) {
	for _, speed := range []int{1, 2, 1 << 20, 0, -1, 1<<20 + 1, math.MinInt, math.MaxInt} {
		for _, gap := range []int{1, 2, 1 << 30, 0, -1, 1<<30 + 1, math.MinInt, math.MaxInt} {
			want := api.OK
			if speed < 1 || speed > 1<<20 || gap < 1 || gap > 1<<30 {
				want = api.ErrRange
			}
			if e := reconstruct.CheckSettings(api.Settings{MaxSpeed: speed, MaxGap: gap}); e != want {
				t.Errorf("CheckSettings(%d, %d) = %d; want %d", speed, gap, e, want)
			}
		}
	}
}

func TestP28_1Examples(t *testing.T) {
	const most = "t1073741824"
	for _, c := range []struct {
		a, b  string
		speed int
		want  bool
	}{
		{"0 1.0", "1 1.1", 1, true}, {"0 1.0", "1 1.1 x1", 1, true}, {"0 1.0", "1 1.1 x2", 1, false}, {"0 1.0", "1 1.1 x-1", 1, true}, {"0 1.0", "1 1.1 x-2", 1, false}, {"0 1.0", "1 1.1 y2", 1, false}, {"0 1.0", "1 1.1 y-2", 2, true}, {"0 1.0", "1 1.1 x1 y1", 1, false}, {"0 1.0", "5 1.1 x3 y4", 1, true}, {"0 1.0", "5 1.1 x6 y8", 2, true}, {"0 1.0", "5 1.1 x6 y9", 2, false}, {"3 1.0 x7 y-9", "8 1.1 x10 y-5", 1, true}, {"3 1.0 x7 y-9", "8 1.1 x10 y-4", 1, false},
		// The same time, and an earlier one.
		{"1 1.0", "1 1.1", 9, false}, {"2 1.0", "1 1.1", 9, false}, {"1 1.1", "2 1.0", 9, true}, {"2 1.1", "1 1.2 x1", 5, false}, {"1/2 1.0", "1/2 1.0", 1, false},
		// The times by the clock of the server are compared, whatever the reports say.
		{"0 1.0 t9 d1", "1 1.1 t3 d2 x1", 1, true}, {"1 1.0 t3", "0 1.1 t9", 1, false}, {"1/2 1.0", "3/2 1.1 x1", 1, true}, {"1/2 1.0", "4/3 1.1 x1", 1, false}, {"1/2 1.0", "4/3 1.1 x2", 3, true}, {"-1/2 1.0", "1/2 1.1 y1", 1, true}, {"0 1.0", "1/3 1.1 x1", 3, true}, {"0 1.0", "333333333/1000000000 1.1 x1", 3, false}, {"0 1.0", "1/3 1.1", 1, true},
		// Reports of any object.
		{"0 1.0", "1 2.1 x1", 1, true},
		// Great numbers.
		{"0 1.0 x-1048576 y-1048576", "2 1.1 x1048576 y1048576", 1 << 20, false}, {"0 1.0 x-1048576 y-1048576", "3 1.1 x1048576 y1048576", 1 << 20, true}, {"0 1.0 x-1048576", "2 1.1 x1048576", 1 << 20, true}, {"0 1.0 x-1048576", "2 1.1 x1048576", 1<<20 - 1, false}, {"0 1.0 x-1048576 " + most, "1073741824 1.1 x1048576", 1 << 20, true}, {"-1073741824 1.0", "2147483648 1.1 x1048576 y1048576 d9", 1 << 20, true},
		{"0 1.0", "1/1000000000000000000000 1.1", 1, true}, {"0 1.0", "1/1000000000000000000000 1.1 x1", 1 << 20, false}, {"0 1.0", "1000000000000000000000 1.1 x1048576", 1, true},
	} {
		s := api.Settings{MaxSpeed: c.speed, MaxGap: 1}
		if got := reconstruct.Compatible(timed(c.a)[0], timed(c.b)[0], s); got != c.want {
			t.Errorf("Compatible(%s; %s; %d) = %v", c.a, c.b, c.speed, got)
		}
		s.MaxGap = 1 << 30
		if got := reconstruct.Compatible(timed(c.a)[0], timed(c.b)[0], s); got != c.want {
			t.Errorf("Compatible(%s; %s; %d) = %v with a great gap", c.a, c.b, c.speed, got)
		}
	}
}

func TestP28_1(t *testing.T) {
	counts := map[bool]int{}
	for _, l := range walks() {
		for _, s := range settings {
			for _, a := range l {
				for _, b := range l {
					want := compatible(t, a, b, s)
					counts[want]++
					if got := reconstruct.Compatible(a, b, s); got != want {
						t.Errorf("Compatible(%s; %v) = %v", showTimed([]intake.Timed{a, b}), s, got)
					}
				}
			}
		}
	}
	if min(counts[false], counts[true]) < 10000 {
		t.Errorf("the numbers of pairs that are compatible or not are %v", counts)
	}
}

func TestP28_2Examples(t *testing.T) {
	for _, c := range []struct {
		s     string
		speed int
		want  []int
	}{
		{"", 1, nil}, {"3 1.0 x5", 1, []int{0}}, {"0 1.0, 1 1.1 x9, 2 1.2 x4, 9 1.3 x4", 2, []int{0, 2, 3}}, {"0 1.1, 0 1.2 x1, 1 1.3 x1", 2, []int{0, 2}}, {"0 1.0 x99, 1 1.1, 2 1.2 x1", 2, []int{1, 2}}, {"0 1.1, 1 1.2 x50", 2, []int{0}}, {"0 1.0, 0 1.1, 0 1.2", 2, []int{0}},
		// Of several longest ones, the least one, from the first index on.
		{"0 1.0 x99, 0 1.1, 1 1.2, 1 1.3 x99", 2, []int{0, 3}}, {"0 1.0, 1 1.1, 1 1.2 x1, 2 1.3", 2, []int{0, 1, 3}}, {"0 1.0, 1 1.1 x1, 1 1.2, 2 1.3", 2, []int{0, 1, 3}}, {"0 1.0 x9, 1 1.1, 2 1.2 x9, 3 1.3, 4 1.4 x9", 1, []int{0, 2, 4}}, {"0 1.0, 1 1.1 x9, 2 1.2, 3 1.3 x9", 1, []int{0, 2}}, {"0 1.0 x9, 1 1.1, 2 1.2, 3 1.3 x9, 4 1.4, 5 1.5", 1, []int{1, 2, 4, 5}}, {"0 1.0, 9 1.1 x9, 10 1.2 x20, 10 1.3 x8, 11 1.4 x20", 1, []int{0, 1, 3}},
		// What is compatible with the next one need not be so with the one after that.
		{"0 1.0, 1 1.1 x1, 2 1.2 x2, 2 1.3 x3, 3 1.4 x4", 1, []int{0, 1, 2}}, {"0 1.0, 1 1.1 x1, 2 1.2, 3 1.3 x3, 4 1.4 x4, 5 1.5 x5", 1, []int{0, 1, 3, 4, 5}},
		// Equal times in any order.
		{"0 1.9 x9, 0 1.1, 0 1.5 x1, 1 1.3 x1, 1 1.2 x9", 1, []int{0, 4}}, {"5 1.2, 5 1.1, 6 1.0", 1, []int{0, 2}},
	} {
		if got := reconstruct.Chain(timed(c.s), api.Settings{MaxSpeed: c.speed, MaxGap: 1}); !slices.Equal(got, c.want) {
			t.Errorf("Chain(%s; %d) = %v; want %v", c.s, c.speed, got, c.want)
		}
	}
}

func TestP28_2(t *testing.T) {
	skipped, draw := 0, draws.From(31)
	for _, l := range walks() {
		for _, s := range settings[1:] {
			want := chain(t, l, s)
			if got := reconstruct.Chain(l, s); !slices.Equal(got, want) {
				t.Errorf("Chain(%s; %v) = %v; want %v", showTimed(l), s, got, want)
			}
			if len(want) < len(l) {
				skipped++
			}
		}
		// Reports with the same time in another order.
		for k := range max(len(l)-1, 0) {
			if l[k].T == l[k+1].T && draw(2) == 0 {
				l[k], l[k+1] = l[k+1], l[k]
			}
		}
		if got := reconstruct.Chain(l, settings[2]); !slices.Equal(got, chain(t, l, settings[2])) {
			t.Errorf("Chain(%s) = %v", showTimed(l), got)
		}
	}
	if skipped < 500 {
		t.Errorf("%d chains leave something out", skipped)
	}
}

// A list may be longer than what an object can have.
func TestP28_2Long(t *testing.T) {
	var l []intake.Timed
	var want []int
	for k := range 3 * reconstruct.MaxTimed {
		r := api.Report{Object: 1, Seq: k, X: k}
		if k%5 == 3 {
			r.Y = 1 << 20
		} else {
			want = append(want, k)
		}
		l = append(l, intake.Timed{T: rational.FromInt(k), Report: r})
	}
	if got := reconstruct.Chain(l, settings[0]); !slices.Equal(got, want) {
		t.Errorf("Chain = %v", got)
	}
	for k := range l {
		l[k].Report.Y = k % 2 << 20
		l[k].Report.X = k * k
	}
	if got := reconstruct.Chain(l, settings[0]); len(got) != 1 || got[0] != 0 {
		t.Errorf("Chain of reports that do not fit = %v", got)
	}
}
