package report_test

import (
	"math"
	"slices"
	"testing"

	"viator/api"
	"viator/notation"
	"viator/report"
)

func TestP25_3Examples(t *testing.T) {
	const example = "1.5 x10, 1.5 v1 x11, 1.6 x12 c"
	for _, c := range []struct{ s, want string }{
		{"", ""}, {example, "1.5 v1 x11"}, {example + ", 1.6 v1 x13", "1.5 v1 x11, 1.6 v1 x13"}, {"1.5 c", ""}, {"1.5, 1.5 c", ""}, {"1.5 c, 1.5 d1", "1.5 d1"}, {"1.5 v1, 1.5 v2 c", ""}, {"1.5 v2 c, 1.5 v3", "1.5 v3"}, {"1.5 v2 t1, 1.5 v1 t9", "1.5 v2 t1"},
		{"1.5 t2, 1.5 x9 y9 d9 c", "1.5 t2"}, {"1.5 x2, 1.5 y9 d9 c", "1.5 x2"}, {"1.5 y2, 1.5 d9 c", "1.5 y2"}, {"2.5, 1.5, 1.4", "1.4, 1.5, 2.5"}, {"2.5 c, 1.5, 2.4", "1.5, 2.4"}, {"-1.-5 v-1, -1.-5 v-2 c", "-1.-5 v-1"},
	} {
		if got := show(report.Counting(reports(c.s))); got != c.want {
			t.Errorf("Counting(%s) = %s; want %s", c.s, got, c.want)
		}
	}
	for _, c := range []struct {
		s, r string
		want int
	}{
		{example, "1.5 x10", report.Superseded}, {example, "1.5 v1 x11", report.Counts}, {example, "1.6 x12 c", report.Withdrawn}, {example, "1.6 x12", report.Absent}, {example, "1.5 v2 x11", report.Absent}, {example + ", 1.6 v1 x13", "1.6 x12 c", report.Superseded}, {example + ", 1.6 v1 x13", "1.6 v1 x13", report.Counts}, {"1.5 v2 c, 1.5 v1 c", "1.5 v1 c", report.Superseded}, {"", "0.0", report.Absent}, {"0.0", "0.0", report.Counts}, {"1.0", "0.0", report.Absent},
	} {
		if got := report.Status(reports(c.s), notation.Report(c.r)); got != c.want {
			t.Errorf("Status(%s; %s) = %d; want %d", c.s, c.r, got, c.want)
		}
	}
	if report.Absent != 0 || report.Counts != 1 || report.Superseded != 2 || report.Withdrawn != 3 {
		t.Error("the numbers of what a report is")
	}
}

func TestP25_3(t *testing.T) {
	var count [4]int
	all := sets()
	for k, l := range all {
		if got := report.Counting(l); !slices.Equal(got, counting(l)) {
			t.Errorf("Counting(%s) = %s", show(l), show(got))
		}
		for _, r := range slices.Concat(l, all[k/2]) {
			want := report.Counts
			switch {
			case !slices.Contains(l, r):
				want = report.Absent
			case !wins(l, r):
				want = report.Superseded
			case r.Cancel:
				want = report.Withdrawn
			}
			count[want]++
			if got := report.Status(l, r); got != want {
				t.Errorf("Status(%s; %v) = %d; want %d", show(l), r, got, want)
			}
		}
	}
	if slices.Min(count[:]) < 500 {
		t.Errorf("the reports of these kinds are %v", count)
	}
}

func TestP25_4(t *testing.T) {
	for _, l := range sets() {
		now := counting(l)
		has := func(id int) bool {
			return slices.ContainsFunc(now, func(r api.Report) bool { return r.Object == id })
		}
		if got := report.Objects(l); !slices.Equal(got, ids(has)) {
			t.Errorf("Objects(%s) = %v", show(l), got)
		}
		for object := -2; object <= 5; object++ {
			var want []api.Report
			for _, r := range now {
				if r.Object == object {
					want = append(want, r)
				}
			}
			if got := report.Of(l, object); !slices.Equal(got, want) {
				t.Errorf("Of(%s; %d) = %s", show(l), object, show(got))
			}
			last, found := report.Last(l, object)
			if len(want) == 0 && (found || last != api.Report{}) || len(want) > 0 && (!found || last != want[len(want)-1]) {
				t.Errorf("Last(%s; %d) = %v, %v", show(l), object, last, found)
			}
		}
	}
}

func TestP25_4Last(t *testing.T) {
	for _, c := range []struct{ s, want string }{
		{"1.5 t9, 1.6 t2", "1.6 t2"}, {"1.5, 1.6 c", "1.5"}, {"1.5, 1.6 v3, 1.6 v4 c", "1.5"}, {"1.5, 1.6 v3, 1.6 v4, 2.9", "1.6 v4"},
	} {
		if last, found := report.Last(reports(c.s), 1); !found || show([]api.Report{last}) != c.want {
			t.Errorf("Last(%s; 1) = %v, %v; want %s", c.s, last, found, c.want)
		}
	}
}

func TestP25_5(t *testing.T) {
	for _, l := range sets() {
		for object := -2; object <= 5; object++ {
			var all []int
			for n := range 9 {
				has := func(seq int) bool {
					return slices.ContainsFunc(l, func(r api.Report) bool { return r.Object == object && r.Seq == seq })
				}
				if greater := ids(func(seq int) bool { return seq > n && has(seq) }); !has(n) && len(greater) > 0 {
					all = append(all, n)
				}
			}
			for _, most := range []int{-1, 0, 1, 2, 3, 9, math.MaxInt, math.MinInt} {
				want := all[:min(len(all), max(most, 0))]
				if got := report.Missing(l, object, most); !slices.Equal(got, want) {
					t.Errorf("Missing(%s; %d, %d) = %v; want %v", show(l), object, most, got, want)
				}
			}
		}
	}
}

func TestP25_5Examples(t *testing.T) {
	for _, c := range []struct {
		s    string
		most int
		want []int
	}{
		{"1.5 x10, 1.5 v1 x11, 1.6 x12 c", 3, []int{0, 1, 2}}, {"1.5 x10, 1.5 v1 x11, 1.6 x12 c", 9, []int{0, 1, 2, 3, 4}}, {"1.1073741824, 1.1", 3, []int{0, 2, 3}}, {"1.9223372036854775807, 1.9223372036854775807 v1", 2, []int{0, 1}}, {"1.9223372036854775807, 1.9223372036854775807 v1", 0, nil}, {"1.0", 5, nil}, {"1.1", 5, []int{0}}, {"1.-9223372036854775808, 1.-1", 5, nil}, {"1.-9223372036854775808, 1.-1, 1.2", 5, []int{0, 1}}, {"1.3 c, 1.2 v2 c, 1.2, 2.1", 5, []int{0, 1}}, {"2.3", 5, nil}, {"", 5, nil},
	} {
		if got := report.Missing(reports(c.s), 1, c.most); !slices.Equal(got, c.want) {
			t.Errorf("Missing(%s; 1, %d) = %v; want %v", c.s, c.most, got, c.want)
		}
	}
}

func TestP25_6Examples(t *testing.T) {
	for _, c := range []struct {
		old, now string
		want     []int
	}{
		{"", "", nil}, {"1.5 x10, 1.5 v1 x11, 1.6 x12 c", "1.5 x10, 1.5 v1 x11, 1.6 x12 c, 1.6 v1 x13", []int{1}}, {"1.5, 2.5", "1.5, 2.5, 2.5", nil}, {"", "3.1, 2.1 c, 1.1", []int{1, 3}}, {"3.1, 2.1 c, 1.1", "", []int{1, 3}}, {"1.5", "1.5 v1", []int{1}}, {"1.5 v1", "1.5 v1, 1.5", nil}, {"1.5 v1", "1.5, 1.5 v1 c", []int{1}}, {"1.5 c", "1.5 v1 c", nil}, {"1.5", "2.5", []int{1, 2}}, {"1.1, 1.2, 1.3", "1.1, 1.3", []int{1}}, {"1.1, 1.2", "1.2, 1.1", nil}, {"-1.0", "0.0", []int{-1, 0}},
	} {
		if got := report.Changed(reports(c.old), reports(c.now)); !slices.Equal(got, c.want) {
			t.Errorf("Changed(%s; %s) = %v; want %v", c.old, c.now, got, c.want)
		}
	}
}

func TestP25_6(t *testing.T) {
	all := sets()
	for k, old := range all {
		for _, now := range [][]api.Report{all[(k*7+3)%len(all)], slices.Concat(old, all[(k*3+1)%len(all)]), slices.Concat(old, reports("2.1 v9")), old} {
			before, after := counting(old), counting(now)
			want := ids(func(id int) bool {
				differs := func(l, other []api.Report) bool {
					return slices.ContainsFunc(l, func(r api.Report) bool { return r.Object == id && !slices.Contains(other, r) })
				}
				return differs(before, after) || differs(after, before)
			})
			if got := report.Changed(old, now); !slices.Equal(got, want) {
				t.Errorf("Changed(%s; %s) = %v; want %v", show(old), show(now), got, want)
			}
		}
	}
}
