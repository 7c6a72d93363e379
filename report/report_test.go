package report_test

import (
	"math"
	"slices"
	"testing"

	"viator/api"
	"viator/notation"
	"viator/report"
)

// limit is what Check or CheckExchange permits for a field.
type limit struct {
	low, high int
	e         api.Errno
}

// checkLimits compares a check with the limits of fields, which are in the order in which their errors come first: for each pair of fields, with values at the limits and beyond.
func checkLimits(t *testing.T, limits []limit, check func(fields []int) api.Errno, allowed func(fields []int) api.Errno) {
	t.Helper()
	values := func(l limit) []int {
		return []int{l.low, l.low + 1, l.high, l.low - 1, l.high + 1, math.MinInt, math.MaxInt}
	}
	for i := range limits {
		for j := range i + 1 {
			for _, a := range values(limits[i]) {
				for _, b := range values(limits[j]) {
					var fields []int
					for k := range limits {
						fields = append(fields, limits[k].low+1+k)
					}
					fields[i], fields[j] = a, b
					want := api.OK
					for k, n := range fields {
						if want == api.OK && (n < limits[k].low || n > limits[k].high) {
							want = limits[k].e
						}
					}
					if e := allowed(fields); e != api.OK && (want == api.OK || want == api.ErrTime) {
						want = e
					}
					if e := check(fields); e != want {
						t.Errorf("the error of %v is %d; want %d", fields, e, want)
					}
				}
			}
		}
	}
}

func TestP25_1Check(t *testing.T) {
	const most = 1 << 30
	limits := []limit{{1, most, api.ErrId}, {0, most, api.ErrRange}, {0, most, api.ErrRange}, {0, most, api.ErrRange}, {0, most, api.ErrTime}, {-1 << 20, 1 << 20, api.ErrRange}, {-1 << 20, 1 << 20, api.ErrRange}}
	for _, cancel := range []bool{false, true} {
		checkLimits(t, limits, func(f []int) api.Errno {
			return report.Check(api.Report{Object: f[0], Seq: f[1], Version: f[2], Device: f[3], Time: f[4], X: f[5], Y: f[6], Cancel: cancel})
		}, func(fields []int) api.Errno { return api.OK })
	}
	if e := report.Check(api.Report{}); e != api.ErrId {
		t.Errorf("the error of a report without an object is %d", e)
	}
}

func TestP25_1CheckExchange(t *testing.T) {
	const most = 1 << 30
	limits := []limit{{0, most, api.ErrRange}, {0, most, api.ErrRange}, {0, most, api.ErrTime}, {0, most, api.ErrTime}, {0, most, api.ErrTime}}
	checkLimits(t, limits, func(f []int) api.Errno {
		return report.CheckExchange(api.Exchange{From: f[0], To: f[1], Sent: f[2], Received: f[3], Least: f[4]})
	}, func(fields []int) api.Errno {
		if fields[0] == fields[1] {
			return api.ErrDuplicate
		}
		return api.OK
	})
	for s, want := range map[string]api.Errno{
		"0>0 0": api.ErrDuplicate, "5>5 3": api.ErrDuplicate, "-1>-1 3": api.ErrRange, "1073741825>1073741825 3": api.ErrRange, "7>7 -1 0 0": api.ErrDuplicate, "7>7 0 0 -1": api.ErrDuplicate, "-1>7 0 0 -1": api.ErrRange, "7>0 9 1 9": api.OK, "0>1073741824 0": api.OK,
	} {
		if e := report.CheckExchange(notation.Exchanges(s)[0]); e != want {
			t.Errorf("the error of %s is %d; want %d", s, e, want)
		}
	}
}

// All reports whose fields are 0 or 1, in order.
func TestP25_2Compare(t *testing.T) {
	var all []api.Report
	for n := range 256 {
		bit := func(k int) int { return n >> (7 - k) & 1 }
		all = append(all, api.Report{Object: bit(0), Seq: bit(1), Version: bit(2), Time: bit(3), X: bit(4), Y: bit(5), Device: bit(6), Cancel: bit(7) == 1})
	}
	for _, high := range []int{1, 5, math.MaxInt} {
		for _, low := range []int{-1, 0, math.MinInt} {
			var l []api.Report
			for _, r := range all {
				for _, field := range []*int{&r.Object, &r.Seq, &r.Version, &r.Time, &r.X, &r.Y, &r.Device} {
					*field = []int{low, high}[*field]
				}
				l = append(l, r)
			}
			for i, a := range l {
				for j, b := range l {
					want := 0
					if i < j {
						want = -1
					} else if i > j {
						want = 1
					}
					if got := report.Compare(a, b); got != want {
						t.Errorf("Compare(%v, %v) = %d; want %d", a, b, got, want)
					}
				}
			}
		}
	}
}

func TestP25_2Examples(t *testing.T) {
	for _, c := range []struct{ a, b, want string }{
		{"", "", ""}, {"2.0", "", "2.0"}, {"2.0, 1.7", "", "1.7, 2.0"}, {"", "2.0, 1.7", "1.7, 2.0"}, {"2.0, 1.7, 2.0", "1.7, 1.7", "1.7, 2.0"}, {"1.5 v1, 1.5", "1.5 c", "1.5, 1.5 c, 1.5 v1"},
		{"1.0 d1, 1.0 y1", "1.0 x1, 1.0 t1, 1.0 v1, 1.1, 1.0 c, 1.0", "1.0, 1.0 c, 1.0 d1, 1.0 y1, 1.0 x1, 1.0 t1, 1.0 v1, 1.1"}, {"1.0 x-3, -1.0", "1.-4, 0.0 x-3", "-1.0, 0.0 x-3, 1.-4, 1.0 x-3"},
	} {
		a, b := reports(c.a), reports(c.b)
		if got := show(report.Union(a, b)); got != c.want {
			t.Errorf("Union(%s; %s) = %s; want %s", c.a, c.b, got, c.want)
		}
		if got := show(report.Set(append(a, b...))); got != c.want {
			t.Errorf("Set(%s, %s) = %s; want %s", c.a, c.b, got, c.want)
		}
	}
}

func TestP25_2(t *testing.T) {
	all := sets()
	for k, l := range all {
		other := all[len(all)-1-k]
		if got := report.Set(l); !slices.Equal(got, set(l)) {
			t.Errorf("Set(%s) = %s", show(l), show(got))
		}
		if got := report.Union(l, other); !slices.Equal(got, set(slices.Concat(l, other))) {
			t.Errorf("Union(%s; %s) = %s", show(l), show(other), show(got))
		}
		for _, r := range slices.Concat(l, other) {
			if got := report.Contains(l, r); got != (len(set(append(slices.Clone(l), r))) == len(set(l))) {
				t.Errorf("Contains(%s; %v) = %v", show(l), r, got)
			}
		}
	}
}

// A report is not in a list that has only reports which differ in one field.
func TestP25_2Contains(t *testing.T) {
	r := reports("1.6 v2 t7 x-3 y4 d8 c")[0]
	near := reports("2.6 v2 t7 x-3 y4 d8 c, 1.5 v2 t7 x-3 y4 d8 c, 1.6 v3 t7 x-3 y4 d8 c, 1.6 v2 t6 x-3 y4 d8 c, 1.6 v2 t7 x3 y4 d8 c, 1.6 v2 t7 x-3 y5 d8 c, 1.6 v2 t7 x-3 y4 c, 1.6 v2 t7 x-3 y4 d8")
	if report.Contains(near, r) || report.Status(near, r) != report.Absent || report.Contains(nil, r) {
		t.Errorf("%v is found in %s", r, show(near))
	}
	if !report.Contains(append(near, r), r) {
		t.Errorf("%v is not found", r)
	}
}
