package notation_test

import (
	"slices"
	"testing"

	"viator/api"
	"viator/intake"
	"viator/notation"
	"viator/rational"
)

func TestReportStrings(t *testing.T) {
	for _, s := range []string{"", "1.5", "1.5, 2.-6 v2 t7 x-3 y4 d8 c, 1.5 c", "3.0 y1 d-1"} {
		if got := notation.ShowReports(notation.Reports(s)); got != s {
			t.Errorf("%q is shown as %q", s, got)
		}
	}
	for _, s := range []string{"", "51/2 1.5", "0 1.5, -1/3 2.-6 v2 t7 x-3 y4 d8 c"} {
		if got := notation.ShowTimed(notation.Timed(s)); got != s {
			t.Errorf("%q is shown as %q", s, got)
		}
	}
	for _, s := range []string{"", "0>1 10 17 2, 1>0 -5, 3>2 0, 2>2 5, 7>0 -1 0 0", "0>1 0 0 1"} {
		if got := notation.ShowExchanges(notation.Exchanges(s)); got != s {
			t.Errorf("%q is shown as %q", s, got)
		}
	}
	for _, s := range []string{"|", "1.5, 2.6 c |", "| 1>2 3", "1.5 x3 | 0>1 10 17 2, 1>0 -5"} {
		if got := notation.ShowBatch(notation.Batch(s)); got != s {
			t.Errorf("%q is shown as %q", s, got)
		}
	}
}

func TestReportValues(t *testing.T) {
	r := api.Report{Object: 1, Seq: 6, Version: 2, Time: 7, X: -3, Y: 4, Device: 8, Cancel: true}
	if got := notation.Report("1.6 v2 t7 x-3 y4 d8 c"); got != r {
		t.Errorf("Report = %v", got)
	}
	if got := notation.Reports("1.6 v2 t7 x-3 y4 d8 c, 3.0"); !slices.Equal(got, []api.Report{r, {Object: 3}}) {
		t.Errorf("Reports = %v", got)
	}
	if got := notation.Timed("7 1.6 v2 t7 x-3 y4 d8 c, 51/2 3.0"); !slices.Equal(got, []intake.Timed{{T: rational.FromInt(7), Report: r}, {T: notation.Rat("51/2"), Report: api.Report{Object: 3}}}) {
		t.Errorf("Timed = %v", got)
	}
	want := []api.Exchange{{From: 1, To: 2, Sent: 3, Received: 4, Least: 5}, {From: 1, Received: 6}, {To: 1, Sent: 6}, {To: 2}}
	if got := notation.Exchanges("1>2 3 4 5, 1>0 6, 0>1 -6, 0>2 0"); !slices.Equal(got, want) {
		t.Errorf("Exchanges = %v", got)
	}
	b := notation.Batch("1.6 v2 t7 x-3 y4 d8 c | 0>2 0, 1>0 6")
	if !slices.Equal(b.Reports, []api.Report{r}) || !slices.Equal(b.Exchanges, []api.Exchange{{To: 2}, {From: 1, Received: 6}}) {
		t.Errorf("Batch = %v", b)
	}
	if b := notation.Batch("1.6"); len(b.Reports) != 1 || len(b.Exchanges) != 0 {
		t.Errorf("Batch = %v", b)
	}
}
