package report_test

import (
	"slices"
	"testing"

	"viator/api"
	"viator/draws"
	"viator/report"
)

func equal(a, b [][]api.Report) bool {
	return slices.EqualFunc(a, b, func(l, other []api.Report) bool { return slices.Equal(l, other) })
}

func TestP25_7Order(t *testing.T) {
	draw := draws.From(7)
	for _, l := range sets() {
		want := everything(l)
		for range 3 {
			other := slices.Clone(l)
			for k := range other {
				j := draw(k + 1)
				other[k], other[j] = other[j], other[k]
			}
			for range min(draw(3), len(l)) {
				other = append(other, other[draw(len(other))])
			}
			if !equal(everything(other), want) {
				t.Errorf("%s and %s differ", show(l), show(other))
			}
			if len(report.Changed(l, other)) > 0 {
				t.Errorf("Changed(%s; %s) = %v", show(l), show(other), report.Changed(l, other))
			}
		}
	}
}

func TestP25_7Counting(t *testing.T) {
	all := sets()
	for k, l := range all {
		other := all[(k*5+2)%len(all)]
		got := report.Counting(report.Union(l, other))
		if want := report.Counting(report.Union(winners(l), winners(other))); !slices.Equal(got, want) {
			t.Errorf("what counts of %s and %s is %s, and that of the winners %s", show(l), show(other), show(got), show(want))
		}
		if again := report.Counting(report.Counting(l)); !slices.Equal(again, report.Counting(l)) {
			t.Errorf("what counts of %s is not what counts again", show(l))
		}
		for _, r := range other {
			one := []api.Report{r}
			unlike := func(l []api.Report) []api.Report {
				return slices.DeleteFunc(l, func(o api.Report) bool { return o.Object == r.Object && o.Seq == r.Seq })
			}
			if more := report.Counting(report.Union(l, one)); !slices.Equal(unlike(more), unlike(report.Counting(l))) {
				t.Errorf("%v changes what counts of %s to %s", r, show(l), show(more))
			}
			if ids := report.Changed(l, report.Union(l, one)); len(ids) > 0 && !slices.Equal(ids, []int{r.Object}) {
				t.Errorf("%v changes the objects %v of %s", r, ids, show(l))
			}
		}
	}
}

// Results share no memory with arguments, and arguments do not change.
func TestP25Arguments(t *testing.T) {
	for _, s := range []string{"2.0", "1.0, 2.0, 2.1, 3.5", "3.5, 1.0 v1, 1.0, 2.0 c, 1.0 v1, 1.7"} {
		l, other := reports(s), reports("1.0 v2, 9.9")
		want, same := everything(l), slices.Clone(l)
		report.Contains(l, other[0])
		report.Changed(l, other)
		for _, result := range [][]api.Report{report.Set(l), report.Union(l, other), report.Union(other, l), report.Union(nil, l), report.Counting(l), report.Of(l, 1), report.Of(l, 2)} {
			clear(result[:cap(result)])
		}
		if !slices.Equal(l, same) || !slices.Equal(other, reports("1.0 v2, 9.9")) || !equal(everything(l), want) {
			t.Errorf("%s became %s", s, show(l))
		}
		// The memory behind a list is not the list's.
		report.Union(l[:1], other)
		report.Set(l[:1])
		report.Of(l[:1], 2)
		report.Missing(l[:1], 2, 9)
		report.Changed(l[:1], l[:1])
		if !slices.Equal(l, same) {
			t.Errorf("%s became %s", s, show(l))
		}
	}
}

func TestP25Empty(t *testing.T) {
	for _, l := range [][]api.Report{nil, {}} {
		for k, result := range [][]api.Report{report.Set(l), report.Union(l, l), report.Counting(l), report.Of(l, 1), numbers(report.Objects(l)), numbers(report.Missing(l, 1, 5)), numbers(report.Changed(l, nil))} {
			if len(result) > 0 {
				t.Errorf("result %d of no reports is %v", k, result)
			}
		}
		if r, found := report.Last(l, 0); found || r != (api.Report{}) {
			t.Errorf("Last = %v, %v", r, found)
		}
		if report.Contains(l, api.Report{}) || report.Status(l, api.Report{}) != report.Absent {
			t.Error("a report in no list")
		}
	}
}

// As many reports as an intake can have.
func TestP25Many(t *testing.T) {
	var l []api.Report
	for k := range api.MaxReports {
		l = append(l, api.Report{Object: 1 + k*37%64, Seq: k * 11 % 80, Version: k % 5, X: k, Cancel: k%7 == 0})
	}
	slices.Reverse(l)
	if got := report.Set(l); len(got) != len(l) || !slices.IsSortedFunc(got, report.Compare) {
		t.Errorf("%d reports", len(got))
	}
	got := report.Counting(l)
	for _, r := range l {
		if want := wins(l, r) && !r.Cancel; report.Contains(got, r) != want {
			t.Fatalf("%v counts: %v", r, !want)
		}
	}
}
