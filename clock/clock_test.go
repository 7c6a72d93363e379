package clock_test

import (
	"math"
	"slices"
	"testing"

	"viator/api"
	"viator/clock"
	"viator/notation"
	"viator/rational"
)

// The time of a message that is nearly as long as it can be permits a great difference.
const longest = "0>1 0 1073741824 0, 1>0 1073741824 0 1073741824"

func TestP26_1(t *testing.T) {
	for _, c := range []struct {
		s string
		e api.Errno
	}{
		{"", api.OK}, {"0>1 5, 1>0 -5, 0>1 5", api.OK}, {longest, api.OK}, {"0>1073741824 0 0 1073741824", api.OK}, {"0>0 5", api.ErrDuplicate}, {"-1>-1 5", api.ErrRange}, {"0>1073741825 5", api.ErrRange}, {"1>0 -1 0 0", api.ErrTime}, {"1>0 0 1073741825 0", api.ErrTime}, {"1>0 0 0 -1", api.ErrTime},
		{"0>1 5, 1>1 5, 2>-1 3", api.ErrDuplicate}, {"0>1 5, 2>-1 3, 1>1 5", api.ErrRange}, {"0>1 0 0 -1, 2>-1 3, 1>1 5", api.ErrTime}, {"0>1 5, 0>2 5, 0>3 5, 4>4 0", api.ErrDuplicate},
	} {
		if e := clock.Check(exchanges(c.s)); e != c.e {
			t.Errorf("Check(%s) = %d; want %d", c.s, e, c.e)
		}
	}
	for _, c := range []struct {
		s     string
		count int
		e     api.Errno
	}{
		{"0>1 5", api.MaxReports, api.OK}, {"0>1 5", api.MaxReports + 1, api.ErrLimit}, {"0>0 5", api.MaxReports, api.ErrDuplicate}, {"0>0 5", api.MaxReports + 1, api.ErrLimit}, {"0>0 5", 3 * api.MaxReports, api.ErrLimit},
	} {
		if e := clock.Check(slices.Repeat(exchanges(c.s), c.count)); e != c.e {
			t.Errorf("Check of %d times %s = %d; want %d", c.count, c.s, e, c.e)
		}
	}
}

func TestP26_2Weight(t *testing.T) {
	for _, c := range []struct {
		s    string
		want int
	}{
		{"0>1 10 17 2", 5}, {"1>0 20 16 1", -5}, {"0>1 0 0 0", 0}, {"0>1 7 7 0", 0}, {"0>1 0 1073741824 0", 1 << 30}, {"0>1 1073741824 0 1073741824", -1 << 31},
	} {
		if got := clock.Weight(exchanges(c.s)[0]); got != c.want {
			t.Errorf("Weight(%s) = %d; want %d", c.s, got, c.want)
		}
	}
}

func TestP26_2Examples(t *testing.T) {
	for _, c := range []struct {
		s         string
		device    int
		devices   []int
		component []int
	}{
		{"", 0, nil, []int{0}}, {"", 7, nil, []int{7}}, {"", -7, nil, []int{-7}}, {"0>1 3", 0, []int{0, 1}, []int{0, 1}}, {"0>1 3", 1, []int{0, 1}, []int{0, 1}}, {"0>1 3", 2, []int{0, 1}, []int{2}}, {"9>2 3, 4>2 1, 7>8 0", 4, []int{2, 4, 7, 8, 9}, []int{2, 4, 9}}, {"9>2 3, 4>2 1, 7>8 0", 8, []int{2, 4, 7, 8, 9}, []int{7, 8}}, {"5>4 0, 3>2 0, 2>1 0, 4>3 0, 5>4 0", 1, []int{1, 2, 3, 4, 5}, []int{1, 2, 3, 4, 5}}, {"1>1073741824 0", 1073741824, []int{1, 1 << 30}, []int{1, 1 << 30}},
	} {
		l := exchanges(c.s)
		if got := clock.Devices(l); !slices.Equal(got, c.devices) {
			t.Errorf("Devices(%s) = %v; want %v", c.s, got, c.devices)
		}
		if got := clock.Component(l, c.device); !slices.Equal(got, c.component) {
			t.Errorf("Component(%s; %d) = %v; want %v", c.s, c.device, got, c.component)
		}
	}
}

func TestP26_2(t *testing.T) {
	for _, l := range systems() {
		var want []int
		for _, d := range devices[:8] {
			if slices.ContainsFunc(l, func(x api.Exchange) bool { return x.From == d || x.To == d }) {
				want = append(want, d)
			}
		}
		if got := clock.Devices(l); !slices.Equal(got, want) {
			t.Errorf("Devices(%s) = %v; want %v", show(l), got, want)
		}
		for _, d := range devices {
			if got := clock.Component(l, d); !slices.Equal(got, component(l, d)) {
				t.Errorf("Component(%s; %d) = %v; want %v", show(l), d, got, component(l, d))
			}
		}
		for _, x := range l {
			if clock.Weight(x) != weight(x) {
				t.Errorf("Weight(%v) = %d", x, clock.Weight(x))
			}
		}
	}
}

func TestP26_4Sum(t *testing.T) {
	const l = "0>1 3, 1>2 -5, 2>1 7, 2>0 1, 0>1 2"
	for _, c := range []struct {
		chain    []int
		from, to int
		sum      int
		e        api.Errno
	}{
		{nil, 0, 0, 0, api.OK}, {nil, 2, 2, 0, api.OK}, {nil, 77, 77, 0, api.OK}, {nil, -3, -3, 0, api.OK}, {nil, 0, 1, 0, api.ErrCertificate}, {[]int{0}, 0, 1, 3, api.OK}, {[]int{4}, 0, 1, 2, api.OK}, {[]int{0, 1}, 0, 2, -2, api.OK}, {[]int{4, 1, 3, 0}, 0, 1, 1, api.OK}, {[]int{1, 2, 1, 2}, 1, 1, 4, api.OK}, {[]int{3}, 2, 0, 1, api.OK},
		{[]int{0}, 1, 0, 0, api.ErrCertificate}, {[]int{0}, 0, 0, 0, api.ErrCertificate}, {[]int{0}, 1, 1, 0, api.ErrCertificate}, {[]int{0, 2}, 0, 1, 0, api.ErrCertificate}, {[]int{0, 3}, 0, 0, 0, api.ErrCertificate}, {[]int{1, 0}, 1, 1, 0, api.ErrCertificate}, {[]int{5}, 0, 1, 0, api.ErrCertificate}, {[]int{-1}, 0, 1, 0, api.ErrCertificate}, {[]int{0, 5}, 0, 1, 0, api.ErrCertificate}, {[]int{0, -1}, 0, 1, 0, api.ErrCertificate}, {[]int{math.MinInt, math.MaxInt}, 0, 1, 0, api.ErrCertificate}, {[]int{0}, 0, 77, 0, api.ErrCertificate},
	} {
		if sum, e := clock.Sum(exchanges(l), c.chain, c.from, c.to); sum != c.sum || e != c.e {
			t.Errorf("Sum(%s; %v, %d, %d) = %d, %d; want %d, %d", l, c.chain, c.from, c.to, sum, e, c.sum, c.e)
		}
	}
	if sum, e := clock.Sum(exchanges(longest), []int{0, 1, 0}, 0, 1); sum != 0 || e != api.OK {
		t.Errorf("the sum of great weights is %d, %d", sum, e)
	}
	if _, e := clock.Sum(nil, []int{0}, 0, 0); e != api.ErrCertificate {
		t.Errorf("the error of an exchange of an empty list is %d", e)
	}
}

func TestP26_4Sums(t *testing.T) {
	for _, l := range systems()[:300] {
		for _, from := range devices[:6] {
			paths(l, from, func(chain []int, to, sum int) {
				for _, end := range devices[:6] {
					got, e := clock.Sum(l, chain, from, end)
					if end == to && (got != sum || e != api.OK) || end != to && (got != 0 || e != api.ErrCertificate) {
						t.Errorf("Sum(%s; %v, %d, %d) = %d, %d", show(l), chain, from, end, got, e)
					}
				}
			})
		}
	}
}

func TestP26_5Middle(t *testing.T) {
	for _, c := range []struct {
		low, high int
		want      string
	}{
		{0, 0, "0"}, {5, 5, "5"}, {4, 5, "9/2"}, {-3, 2, "-1/2"}, {-3, 3, "0"}, {-5, -2, "-7/2"}, {-7, -7, "-7"}, {5, 2, "7/2"}, {1<<40 - 1, 1<<40 - 1, "1099511627775"}, {-1<<40 + 1, -1<<40 + 2, "-2199023255549/2"}, {-1<<40 + 1, 1<<40 - 1, "0"},
	} {
		if got := rational.Print(clock.Middle(clock.Bounds{Low: c.low, High: c.high})); got != c.want {
			t.Errorf("Middle(%d, %d) = %s; want %s", c.low, c.high, got, c.want)
		}
	}
}

func TestP26_5Examples(t *testing.T) {
	const far = "0>1 1073741824, 1>0 -1073741824, 1>2 1073741824, 2>1 -1073741823"
	for _, c := range []struct {
		l, r, want string
		e          api.Errno
	}{
		{"0>1 10 17 2, 1>0 20 16 1", "1.0 t30 d1", "25", api.OK}, {"0>1 5, 1>0 -4", "1.0 t30 d1", "51/2", api.OK}, {"0>1 5, 1>0 -6", "1.0 t30 d1", "0", api.ErrInfeasible}, {"0>1 5", "1.0 t30 d1", "0", api.ErrUnreachable}, {"1>0 5", "1.0 t30 d1", "0", api.ErrUnreachable}, {"0>1 5, 1>0 -6", "1.0 t30", "30", api.OK}, {"0>1 5, 1>0 -6", "1.0 t30 d2", "30", api.OK}, {"", "2.7 t0 d9 c", "0", api.OK}, {"0>1 5, 1>0 -4", "2.0 t3 d1", "-3/2", api.OK}, {"0>2 5, 2>0 -4", "2.0 t3 d1", "3", api.OK}, {"0>1 -5, 1>0 5", "-4.-7 v-1 x-3 y8 t-3 d1", "2", api.OK},
		{"0>1 5, 1>0 -6", "1.0 t30 d-1", "0", api.ErrId}, {"", "1.0 t30 d1073741825", "0", api.ErrId}, {"", "1.0 t30 d1073741824", "30", api.OK}, {far, "1.0 t1099511627776 d2", "2194728288257/2", api.OK}, {far, "1.0 t-1099511627776 d2", "-2203318222847/2", api.OK},
	} {
		got, e := clock.Correct(exchanges(c.l), notation.Report(c.r))
		if rational.Print(got) != c.want || e != c.e {
			t.Errorf("Correct(%s; %s) = %s, %d; want %s, %d", c.l, c.r, rational.Print(got), e, c.want, c.e)
		}
	}
}

func TestP26_5(t *testing.T) {
	for _, l := range systems() {
		for _, d := range devices {
			for _, time := range []int{0, 7} {
				low, high, want := bounds(l, d)
				got, e := clock.Correct(l, api.Report{Object: 3, Device: d, Time: time, X: 9})
				twice := rational.Mul(got, rational.FromInt(2))
				if e != want || e == api.OK && twice != rational.FromInt(2*time-low-high) || e != api.OK && got != (api.Rat{}) {
					t.Errorf("Correct(%s; device %d, time %d) = %s, %d", show(l), d, time, rational.Print(got), e)
				}
			}
		}
	}
}
