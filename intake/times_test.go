package intake_test

import (
	"slices"
	"strconv"
	"testing"

	"viator/api"
	"viator/clock"
	"viator/intake"
	"viator/notation"
	"viator/rational"
)

// The clock of the device 1 is between 4 and 5 fast, that of the device 2 cannot be compared with the server's, and those of the devices 3 and 4 contradict one another.
const clocks = "0>1 5, 1>0 -4, 0>2 7, 3>4 1, 4>3 -2"

// number shows a number that there may be.
func number[N any](n N, found bool, show func(n N) string) string {
	if !found {
		return "none"
	}
	return show(n)
}

func TestP27_4Examples(t *testing.T) {
	for _, c := range []struct {
		s              string
		timed, untimed string
	}{
		{"", "", ""}, {"1.0 t3", "3 1.0 t3", ""}, {"2.0 t3", "", ""}, {"1.0 t3 d1, 1.1 t3 d2 | " + clocks, "-3/2 1.0 t3 d1", "1.1 t3 d2"}, {"1.0 t3 d1, 1.1 t3 d2", "3 1.0 t3 d1, 3 1.1 t3 d2", ""},
		// By their times, and then by their Seqs.
		{"1.0 t9, 1.1 t4, 1.2 t7", "4 1.1 t4, 7 1.2 t7, 9 1.0 t9", ""}, {"1.2 t4, 1.1 t4 x7, 1.0 t4 x9, 1.3 t3", "3 1.3 t3, 4 1.0 t4 x9, 4 1.1 t4 x7, 4 1.2 t4", ""}, {"1.0 t10 d1, 1.1 t6, 1.2 t5, 1.3 t7 | " + clocks, "5 1.2 t5, 11/2 1.0 t10 d1, 6 1.1 t6, 7 1.3 t7", ""},
		// Those of other objects, and those that do not count.
		{"1.0 t3, 1.0 v1 t4, 1.1 t5 c, 2.2 t6, 1.3 t7, 1.3 v1 c", "4 1.0 v1 t4", ""}, {"1.0 t3 d2, 1.0 v1 t4 d3, 1.1 t5 d3 c, 2.2 t6 d3 | " + clocks, "", "1.0 v1 t4 d3"}, {"1.3 d4, 1.1 d3, 1.2 d2, 1.0 d9 | " + clocks, "0 1.0 d9", "1.1 d3, 1.2 d2, 1.3 d4"}, {"1.2 t1 d2, 1.0 t9 d2, 1.1 t5 d3, 2.0 d2 | " + clocks, "", "1.0 t9 d2, 1.1 t5 d3, 1.2 t1 d2"},
		// The server, while its own clock is in a contradiction.
		{"1.0 t3, 1.1 t5 d1, 1.2 t6 d9 | 0>1 3, 1>0 -4", "3 1.0 t3, 6 1.2 t6 d9", "1.1 t5 d1"},
		// Great numbers.
		{"1.1073741824 v1073741824 t1073741824 d1 | 0>1 0 1073741824 0, 1>0 0 1073741824 1", "2147483647/2 1.1073741824 v1073741824 t1073741824 d1", ""},
	} {
		x := from(t, c.s)
		if got := showTimed(x.Of(1)); got != c.timed {
			t.Errorf("Of(%s) = %s; want %s", c.s, got, c.timed)
		}
		if got := notation.ShowReports(x.Untimed(1)); got != c.untimed {
			t.Errorf("Untimed(%s) = %s; want %s", c.s, got, c.untimed)
		}
	}
}

func TestP27_4(t *testing.T) {
	kinds := map[string]int{}
	each(t, func(x *intake.Intake, all api.Batch) {
		for _, id := range objects {
			got := x.Of(id)
			if !slices.Equal(got, timed(all, id)) {
				t.Errorf("Of(%s; %d) = %s", show(all), id, showTimed(got))
			}
			if got := x.Untimed(id); !slices.Equal(got, untimed(all, id)) {
				t.Errorf("Untimed(%s; %d) = %s", show(all), id, notation.ShowReports(got))
			}
			for k, r := range got {
				if k > 0 && r.T == got[k-1].T {
					kinds["the same time"]++
				}
				if k > 0 && r.Report.Seq < got[k-1].Report.Seq {
					kinds["other orders"]++
				}
			}
			for _, r := range untimed(all, id) {
				_, e := clock.Correct(all.Exchanges, r)
				kinds[strconv.Itoa(int(e))]++
			}
		}
	})
	for _, kind := range []string{"the same time", "other orders", strconv.Itoa(int(api.ErrUnreachable)), strconv.Itoa(int(api.ErrInfeasible))} {
		if kinds[kind] < 100 {
			t.Errorf("there are not enough of %s: %v", kind, kinds)
		}
	}
}

// Many reports with the same times.
func TestP27_4SameTimes(t *testing.T) {
	var b api.Batch
	var want []intake.Timed
	for at := range 3 {
		for k := range 100 {
			r := api.Report{Object: 1, Seq: 3*k + (k+at)%3, Time: at}
			b.Reports = append(b.Reports, r)
			want = append(want, intake.Timed{T: rational.FromInt(at), Report: r})
		}
	}
	slices.Reverse(b.Reports)
	if got := of(t, b).Of(1); !slices.Equal(got, want) {
		t.Errorf("Of = %s", showTimed(got))
	}
}

func TestP27_5Examples(t *testing.T) {
	for _, c := range []struct {
		s        string
		complete string
		pending  string
	}{
		{"", "none", ""}, {"1.0 t3", "0", ""}, {"1.1 t3", "none", "3 1.1 t3"}, {"2.0, 1.1 t3", "none", "3 1.1 t3"}, {"2.1, 1.0 t3, 1.2", "0", "0 1.2"}, {"1.0 t10, 1.1 t20, 1.3 t40", "1", "40 1.3 t40"}, {"1.0 t10, 1.1 t20, 1.3 t40, 1.2 t50", "3", ""},
		// Reports that do not count, or have no time.
		{"1.0 c, 1.1 t4", "1", ""}, {"1.0 c, 1.2 t4", "0", "4 1.2 t4"}, {"1.0 t10, 1.1 t20, 1.3 t40, 1.2 t50, 1.2 v1 c", "3", ""}, {"1.0 d2, 1.1 d3, 1.3 d4, 1.4 t4 | " + clocks, "1", "4 1.4 t4"}, {"1.0 c", "0", ""}, {"1.1 c, 1.2 c", "none", ""}, {"1.1 c, 1.2 c, 1.0 t5, 1.5 t7 c", "2", ""},
		// By their times.
		{"1.0, 1.4 t8, 1.2 t9, 1.3 t8 d1 | " + clocks, "0", "7/2 1.3 t8 d1, 8 1.4 t8, 9 1.2 t9"}, {"1.5 t1, 1.4 t2, 1.2 t2", "none", "1 1.5 t1, 2 1.2 t2, 2 1.4 t2"}, {"1.0, 1.0 v1, 1.0 v2, 1.1073741824 t3", "0", "3 1.1073741824 t3"},
	} {
		x := from(t, c.s)
		n, found := x.Complete(1)
		if got := number(n, found, strconv.Itoa); got != c.complete || !found && n != 0 {
			t.Errorf("Complete(%s) = %d, %v; want %s", c.s, n, found, c.complete)
		}
		if got := showTimed(x.Pending(1)); got != c.pending {
			t.Errorf("Pending(%s) = %s; want %s", c.s, got, c.pending)
		}
	}
}

func TestP27_5(t *testing.T) {
	counts := map[int]int{}
	each(t, func(x *intake.Intake, all api.Batch) {
		for _, id := range objects {
			n, found := x.Complete(id)
			if want, is := complete(all, id); n != want || found != is {
				t.Errorf("Complete(%s; %d) = %d, %v; want %d, %v", show(all), id, n, found, want, is)
			}
			if got := x.Pending(id); !slices.Equal(got, pending(all, id)) {
				t.Errorf("Pending(%s; %d) = %s", show(all), id, showTimed(got))
			}
			if found {
				counts[n]++
			}
		}
	})
	if min(counts[0], counts[1], counts[2], counts[3]) < 100 {
		t.Errorf("objects are complete up to %v", counts)
	}
}

func TestP27_6Examples(t *testing.T) {
	for _, c := range []struct{ s, frontier, watermark string }{
		{"", "none", "none"}, {"1.0 t3", "3", "3"}, {"1.1 t3", "none", "none"}, {"1.0 t10, 1.1 t20, 1.3 t40", "20", "20"}, {"1.0 t10, 1.1 t20, 1.3 t40, 1.2 t50", "50", "50"}, {"1.0 t10, 1.1 t20, 1.3 t40, 1.2 t50, 1.2 v1 c", "40", "40"}, {"1.0 t30, 1.1 t20", "30", "30"}, {"1.0 t30 d1, 1.1 t20 | " + clocks, "51/2", "51/2"},
		// Reports without a time, and those that do not count, are no frontier, but they are there.
		{"1.0 t3, 1.1 t9 d2 | " + clocks, "3", "3"}, {"1.0 t3 d2, 1.1 t9 | " + clocks, "9", "9"}, {"1.0 t3 d2 | " + clocks, "none", "none"}, {"1.0 t3 d2, 1.2 t9 | " + clocks, "none", "none"}, {"1.0 t3 c", "none", "none"}, {"1.0 t3, 1.0 v1 t2", "2", "2"}, {"1.0 t3 c, 1.1 t1", "1", "1"},
		// The least frontier of all objects that have a report, even if none of these counts.
		{"1.0 t3, 2.0 t2", "3", "2"}, {"1.0 t3, 2.0 t4", "3", "3"}, {"1.0 t3, 2.0 t4, 2.2 t1", "3", "3"}, {"1.0 t3, 2.1 t4", "3", "none"}, {"2.0 t3", "none", "3"}, {"1.1 t3, 2.0 t4", "none", "none"}, {"1.0 t3, 2.0 t4 c", "3", "none"}, {"1.0 t3, 2.0 t4 d3 | " + clocks, "3", "none"}, {"1.0 t3, 2.0 t4 d1, 3.0 t0 | " + clocks, "3", "-1/2"}, {"| " + clocks, "none", "none"}, {"1.0 t1, 2.0 t1", "1", "1"},
	} {
		x := from(t, c.s)
		f, found := x.Frontier(1)
		if got := number(f, found, rational.Print); got != c.frontier || !found && f != (api.Rat{}) {
			t.Errorf("Frontier(%s) = %s, %v; want %s", c.s, rational.Print(f), found, c.frontier)
		}
		w, found := x.Watermark()
		if got := number(w, found, rational.Print); got != c.watermark || !found && w != (api.Rat{}) {
			t.Errorf("Watermark(%s) = %s, %v; want %s", c.s, rational.Print(w), found, c.watermark)
		}
	}
}

func TestP27_6(t *testing.T) {
	frontiers, watermarks := 0, 0
	each(t, func(x *intake.Intake, all api.Batch) {
		for _, id := range objects {
			f, found := x.Frontier(id)
			if want, is := frontier(all, id); f != want || found != is {
				t.Errorf("Frontier(%s; %d) = %s, %v; want %s, %v", show(all), id, rational.Print(f), found, rational.Print(want), is)
			}
			if found && len(x.Pending(id)) > 0 {
				frontiers++
			}
		}
		w, found := x.Watermark()
		if want, is := watermark(all); w != want || found != is {
			t.Errorf("Watermark(%s) = %s, %v; want %s, %v", show(all), rational.Print(w), found, rational.Print(want), is)
		}
		if found && len(x.Objects()) > 1 {
			watermarks++
		}
	})
	if min(frontiers, watermarks) < 100 {
		t.Errorf("%d frontiers before pending reports, %d watermarks of several objects", frontiers, watermarks)
	}
}

func TestP27_6LateExamples(t *testing.T) {
	const s = "1.0 t10, 1.1 t20, 1.3 t40, 2.1 t9, 3.0 t7 d1 | " + clocks
	for _, c := range []struct {
		s, r string
		late bool
		e    api.Errno
	}{
		{s, "1.9 t19", true, api.OK}, {s, "1.9 t20", true, api.OK}, {s, "1.9 t21", false, api.OK}, {s, "1.1 t20", true, api.OK}, {s, "1.3 t40", false, api.OK}, {s, "1.0 v7 t3 c", true, api.OK}, {s, "2.0 t1", false, api.OK}, {s, "4.0", false, api.OK}, {"", "1.0", false, api.OK},
		// By the clock of the server, of the report and of the frontier.
		{s, "1.9 t24 d1", true, api.OK}, {s, "1.9 t25 d1", false, api.OK}, {s, "3.1 t7 d1", true, api.OK}, {s, "3.1 t8 d1", false, api.OK}, {s, "3.1 t2", true, api.OK}, {s, "3.1 t3", false, api.OK}, {s, "1.9 t20 d9", true, api.OK},
		// Errors.
		{s, "0.0", false, api.ErrId}, {s, "1.0 t-1", false, api.ErrTime}, {s, "1.0 d1073741825", false, api.ErrRange}, {s, "1.0 d2", false, api.ErrUnreachable}, {s, "1.0 d4", false, api.ErrInfeasible}, {s, "2.0 d2", false, api.ErrUnreachable}, {s, "7.0 d3", false, api.ErrInfeasible}, {s, "0.0 d3", false, api.ErrId}, {"", "0.0", false, api.ErrId},
	} {
		x := from(t, c.s)
		if got, e := x.Late(notation.Report(c.r)); got != c.late || e != c.e {
			t.Errorf("Late(%s) = %v, %d; want %v, %d", c.r, got, e, c.late, c.e)
		}
		if !x.Equal(from(t, c.s)) {
			t.Errorf("Late(%s) changed the intake", c.r)
		}
	}
}

func TestP27_6Late(t *testing.T) {
	counts := map[bool]int{}
	each(t, func(x *intake.Intake, all api.Batch) {
		for n := range 4 * 4 * 3 {
			r := api.Report{Object: 1 + n%4, Seq: n % 5, Time: 6 + n%13, Device: n / 4 % 4, Cancel: n%3 == 0}
			at, e := clock.Correct(all.Exchanges, r)
			f, found := frontier(all, r.Object)
			want := e == api.OK && found && rational.Compare(at, f) <= 0
			counts[want]++
			if got, f := x.Late(r); got != want || f != e {
				t.Errorf("Late(%s; %v) = %v, %d; want %v, %d", show(all), r, got, f, want, e)
			}
		}
	})
	if min(counts[false], counts[true]) < 1000 {
		t.Errorf("the numbers of reports that are late or not are %v", counts)
	}
}
