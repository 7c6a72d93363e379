package intake_test

import (
	"slices"
	"testing"

	"viator/api"
	"viator/intake"
	"viator/notation"
	"viator/report"
)

func TestP27_1New(t *testing.T) {
	x, y := intake.New(), intake.New()
	if x == nil || size(x.Without(nil)) > 0 || !x.Equal(y) {
		t.Errorf("New = %v", x)
	}
	x.Add(batch("1.0 | 0>1 3"))
	if size(y.Without(nil)) > 0 || size(intake.New().Without(nil)) > 0 {
		t.Error("what was added to one intake is in others")
	}
}

func TestP27_1Examples(t *testing.T) {
	x := intake.New()
	for _, c := range []struct {
		s    string
		n    int
		e    api.Errno
		want string
	}{
		{"", 0, api.OK, "|"}, {"2.0, 1.7, 2.0", 2, api.OK, "1.7, 2.0 |"}, {"2.0, 1.7, 1.7", 0, api.OK, "1.7, 2.0 |"}, {"| 1>0 3, 0>1 9, 1>0 3", 2, api.OK, "1.7, 2.0 | 0>1 9, 1>0 3"}, {"1.7 c, 2.0 | 0>1 9, 0>2 4", 2, api.OK, "1.7, 1.7 c, 2.0 | 0>1 9, 0>2 4, 1>0 3"},
		// Reports come first, and then exchanges, each in their order.
		{"9.9, 0.0", 0, api.ErrId, ""}, {"9.9, 1.0 v-1, 0.0 | 1>1 0", 0, api.ErrRange, ""}, {"9.9, 1.0 t-1, 1.0 v-1 | 1>1 0", 0, api.ErrTime, ""}, {"9.9 | 0>5 1, 1>1 0, -1>1 0", 0, api.ErrDuplicate, ""}, {"9.9 | 0>5 1, -1>1 0, 1>1 0", 0, api.ErrRange, ""}, {"9.9 | 0>5 1, 1>0 0 0 -1, 1>1 0", 0, api.ErrTime, ""}, {"9.9 x1048577 c", 0, api.ErrRange, ""},
	} {
		if n, e := x.Add(batch(c.s)); n != c.n || e != c.e {
			t.Errorf("Add(%s) = %d, %d; want %d, %d", c.s, n, e, c.n, c.e)
		}
		if c.e != api.OK {
			c.want = "1.7, 1.7 c, 2.0 | 0>1 9, 0>2 4, 1>0 3"
		}
		if got := show(x.Without(nil)); got != c.want {
			t.Errorf("behind %s there is %s; want %s", c.s, got, c.want)
		}
	}
}

func TestP27_1(t *testing.T) {
	for _, history := range histories() {
		x := intake.New()
		for k, b := range history {
			before := join(history[:k]...)
			if n, e := x.Add(b); n != size(without(b, before)) || e != api.OK {
				t.Errorf("Add(%s) behind %s = %d, %d", show(b), show(before), n, e)
			}
			if n, e := x.Add(b); n != 0 || e != api.OK {
				t.Errorf("Add(%s) again = %d, %d", show(b), n, e)
			}
			if got := x.Without(nil); show(got) != show(set(join(before, b))) {
				t.Errorf("Add(%s) behind %s leads to %s", show(b), show(before), show(got))
			}
		}
	}
}

// many returns a batch with different reports and exchanges.
func many(reports, exchanges int) api.Batch {
	var b api.Batch
	for k := range reports {
		b.Reports = append(b.Reports, api.Report{Object: 1 + k%3, Seq: k, Time: k})
	}
	for k := range exchanges {
		b.Exchanges = append(b.Exchanges, api.Exchange{To: 1 + k%3, Received: k})
	}
	return b
}

func TestP27_1Limit(t *testing.T) {
	full := many(api.MaxReports, api.MaxReports)
	x := of(t, full)
	for _, c := range []struct {
		before, b api.Batch
		n         int
		e         api.Errno
	}{
		{api.Batch{}, many(4096, 4096), 8192, api.OK}, {api.Batch{}, many(4097, 0), 0, api.ErrLimit}, {api.Batch{}, many(0, 4097), 0, api.ErrLimit}, {api.Batch{}, join(full, full), 8192, api.OK}, {full, full, 0, api.OK}, {full, batch("1.1 v1 t1"), 0, api.ErrLimit}, {full, batch("| 9>0 0"), 0, api.ErrLimit}, {full, batch("1.0 | 0>1 0"), 0, api.OK}, {many(4096, 0), many(0, 4096), 4096, api.OK}, {many(4096, 7), batch("| 9>0 0"), 1, api.OK}, {many(7, 4096), batch("7.7"), 1, api.OK}, {many(4095, 4095), batch("7.7, 7.7 | 8>0 0, 8>0 0"), 2, api.OK}, {many(4095, 4095), batch("7.7, 7.8"), 0, api.ErrLimit}, {many(4095, 4095), batch("7.7 | 8>0 0, 8>0 1"), 0, api.ErrLimit}, {many(4095, 4095), batch("7.7, 7.8 | 8>0 0"), 0, api.ErrLimit},
		// The errors of reports and exchanges come first.
		{full, batch("7.7, 0.0"), 0, api.ErrId}, {full, batch("7.7 | 0>0 5"), 0, api.ErrDuplicate}, {api.Batch{}, join(many(4097, 0), batch("| 0>0 5")), 0, api.ErrDuplicate},
	} {
		y := of(t, c.before)
		n, e := y.Add(c.b)
		if n != c.n || e != c.e {
			t.Errorf("Add of %d and %d to %d and %d = %d, %d; want %d, %d", len(c.b.Reports), len(c.b.Exchanges), len(c.before.Reports), len(c.before.Exchanges), n, e, c.n, c.e)
		}
		if c.e != api.OK && !y.Equal(of(t, c.before)) {
			t.Errorf("the error %d changed the intake", e)
		}
		if size(without(c.b, c.before)) > size(c.before) || c.e == api.ErrId || c.e == api.ErrDuplicate {
			continue
		}
		other := of(t, c.b)
		y = of(t, c.before)
		if n, e := y.Merge(other); n != c.n || e != c.e {
			t.Errorf("Merge = %d, %d; want %d, %d", n, e, c.n, c.e)
		}
		if c.e != api.OK && !y.Equal(of(t, c.before)) {
			t.Errorf("the error %d of Merge changed the intake", e)
		}
	}
	if size(x.Without(nil)) != 2*api.MaxReports {
		t.Error("an intake that is full")
	}
}

func TestP27_2Examples(t *testing.T) {
	for _, c := range []struct {
		a, b    string
		n       int
		all     string
		without string // what a has and b has not
	}{
		{"", "", 0, "|", "|"}, {"1.0", "", 0, "1.0 |", "1.0 |"}, {"", "1.0 | 0>1 2", 2, "1.0 | 0>1 2", "|"}, {"1.0, 2.0 | 0>1 2", "1.0, 3.0 | 0>1 3, 0>1 2", 2, "1.0, 2.0, 3.0 | 0>1 2, 0>1 3", "2.0 |"}, {"1.0", "1.0 v1", 1, "1.0, 1.0 v1 |", "1.0 |"}, {"1.0 c", "1.0", 1, "1.0, 1.0 c |", "1.0 c |"}, {"| 2>1 3, 1>2 9, 1>2 0 9 1, 0>9 5, 1>2 -4", "| 0>9 6", 1, "| 0>9 5, 0>9 6, 1>2 9, 1>2 0 9 1, 1>2 -4, 2>1 3", "| 0>9 5, 1>2 9, 1>2 0 9 1, 1>2 -4, 2>1 3"},
	} {
		a, b := from(t, c.a), from(t, c.b)
		if got := show(a.Without(b)); got != c.without {
			t.Errorf("%s without %s is %s; want %s", c.a, c.b, got, c.without)
		}
		if n, e := a.Merge(b); n != c.n || e != api.OK || show(a.Without(nil)) != c.all {
			t.Errorf("Merge(%s; %s) = %d, %d, and leads to %s; want %d, %s", c.a, c.b, n, e, show(a.Without(nil)), c.n, c.all)
		}
		if !b.Equal(from(t, c.b)) {
			t.Errorf("Merge changed %s", c.b)
		}
	}
}

func TestP27_2(t *testing.T) {
	all := histories()
	for k, history := range all {
		a, b := join(history...), join(all[(k*7+5)%len(all)]...)
		x, y := of(t, a), of(t, b)
		if got := x.Without(y); show(got) != show(without(a, b)) {
			t.Errorf("%s without %s is %s", show(a), show(b), show(got))
		}
		for _, o := range []*intake.Intake{nil, intake.New()} {
			if got := x.Without(o); show(got) != show(set(a)) {
				t.Errorf("%s without nothing is %s", show(a), show(got))
			}
		}
		if n, e := x.Merge(y); n != size(without(b, a)) || e != api.OK || show(x.Without(nil)) != show(set(join(a, b))) {
			t.Errorf("Merge(%s; %s) = %d, %d, and leads to %s", show(a), show(b), n, e, show(x.Without(nil)))
		}
		if n, e := x.Merge(x); n != 0 || e != api.OK || show(x.Without(nil)) != show(set(join(a, b))) {
			t.Errorf("Merge with itself = %d, %d", n, e)
		}
		if got := x.Without(x); size(got) > 0 {
			t.Errorf("an intake without itself is %s", show(got))
		}
	}
}

func TestP27_3Examples(t *testing.T) {
	x := from(t, "2.1 v1, 2.1 c, 2.1, 1.9 x-3, 1.9 y1, 1.9 d7, 1.9 x-2, 3.0 c, 4.0 v1 c, 4.0 | 1>0 5, 0>2 5 4 1, 0>2 5 4 0, 0>1 5, 0>1 5 4 3, 0>1 4")
	if got, want := notation.ShowReports(x.Reports()), "1.9 x-3, 1.9 x-2, 1.9 d7, 1.9 y1, 2.1, 2.1 c, 2.1 v1, 3.0 c, 4.0, 4.0 v1 c"; got != want {
		t.Errorf("Reports = %s; want %s", got, want)
	}
	if got, want := notation.ShowExchanges(x.Exchanges()), "0>1 4, 0>1 5, 0>1 5 4 3, 0>2 5 4 0, 0>2 5 4 1, 1>0 5"; got != want {
		t.Errorf("Exchanges = %s; want %s", got, want)
	}
	if got := x.Objects(); !slices.Equal(got, []int{1, 2}) {
		t.Errorf("Objects = %v", got)
	}
}

func TestP27_3(t *testing.T) {
	withdrawn := 0
	each(t, func(x *intake.Intake, all api.Batch) {
		if got := x.Reports(); !slices.Equal(got, report.Set(all.Reports)) {
			t.Errorf("Reports of %s = %s", show(all), notation.ShowReports(got))
		}
		if got := x.Exchanges(); !slices.Equal(got, exchanges(all.Exchanges)) {
			t.Errorf("Exchanges of %s = %s", show(all), notation.ShowExchanges(got))
		}
		var want []int
		for id := -1; id < 5; id++ {
			if len(report.Of(all.Reports, id)) > 0 {
				want = append(want, id)
			} else if slices.ContainsFunc(all.Reports, func(r api.Report) bool { return r.Object == id }) {
				withdrawn++
			}
		}
		if got := x.Objects(); !slices.Equal(got, want) {
			t.Errorf("Objects of %s = %v; want %v", show(all), got, want)
		}
	})
	if withdrawn < 20 {
		t.Errorf("%d objects whose reports are withdrawn", withdrawn)
	}
}

// All exchanges with small numbers, which are added the other way round.
func TestP27_3Order(t *testing.T) {
	var all []api.Exchange
	for n := range 3 * 3 * 8 {
		x := api.Exchange{From: n / 24, To: n / 8 % 3, Sent: n / 4 % 2, Received: n / 2 % 2, Least: n % 2}
		if x.From != x.To {
			all = append(all, x)
		}
	}
	x := intake.New()
	for k := range all {
		x.Add(api.Batch{Exchanges: all[len(all)-1-k:]})
	}
	if got := x.Exchanges(); !slices.Equal(got, all) {
		t.Errorf("Exchanges = %s", notation.ShowExchanges(got))
	}
}

func TestP27_7Clone(t *testing.T) {
	each(t, func(x *intake.Intake, all api.Batch) {
		y := x.Clone()
		if !y.Equal(x) || !x.Equal(y) || show(y.Without(nil)) != show(set(all)) {
			t.Errorf("the clone of %s is %s", show(all), show(y.Without(nil)))
		}
		if n, e := y.Add(batch("9.0 | 9>0 1")); n != 2 || e != api.OK || show(x.Without(nil)) != show(set(all)) {
			t.Errorf("what is added to the clone changes %s", show(all))
		}
		z := x.Clone()
		z.Add(batch("8.0 | 8>0 1"))
		if show(y.Without(x)) != "9.0 | 9>0 1" || show(z.Without(x)) != "8.0 | 8>0 1" {
			t.Errorf("clones of %s are not independent", show(all))
		}
		w := z.Clone()
		z.Add(batch("7.0"))
		if show(w.Without(x)) != "8.0 | 8>0 1" {
			t.Errorf("what is added changes the clone of %s", show(all))
		}
	})
}

func TestP27_7Equal(t *testing.T) {
	for _, c := range []struct {
		a, b string
		want bool
	}{
		{"", "", true}, {"1.0", "1.0, 1.0", true}, {"2.0, 1.0 | 0>1 3, 0>2 4", "1.0, 2.0 | 0>2 4, 0>1 3", true}, {"1.0", "", false}, {"| 0>1 3", "", false}, {"1.0", "2.0", false}, {"1.0, 2.0", "1.0, 3.0", false}, {"1.0 | 0>1 3", "1.0 | 0>1 4", false}, {"1.0 | 0>1 3", "1.1 | 0>1 3", false}, {"1.0, 1.0 v1", "1.0 v1", false}, {"1.0 c", "1.0", false}, {"1.0 | 0>1 3", "1.0 | 0>1 1 4 0", false}, {"1.0 | 0>1 3", "1.0", false},
	} {
		a, b := from(t, c.a), from(t, c.b)
		if a.Equal(b) != c.want || b.Equal(a) != c.want || !a.Equal(a) {
			t.Errorf("Equal(%s; %s) = %v", c.a, c.b, a.Equal(b))
		}
	}
	all := histories()
	for k, history := range all {
		a, b := join(history...), join(all[(k*11+2)%len(all)]...)
		if got := of(t, a).Equal(of(t, b)); got != (show(set(a)) == show(set(b))) {
			t.Errorf("Equal(%s; %s) = %v", show(a), show(b), got)
		}
	}
}
