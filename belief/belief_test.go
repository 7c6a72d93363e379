package belief_test

import (
	"math"
	"slices"
	"testing"

	"viator/api"
	"viator/belief"
	"viator/draws"
	"viator/intake"
	"viator/notation"
	"viator/report"
)

func TestP30_1New(t *testing.T) {
	for _, speed := range []int{1, 1 << 20, 0, -1, 1<<20 + 1, math.MinInt} {
		for _, gap := range []int{1, 1 << 30, 0, -1, 1<<30 + 1, math.MaxInt} {
			want := api.OK
			if speed < 1 || speed > 1<<20 || gap < 1 || gap > 1<<30 {
				want = api.ErrRange
			}
			l, e := belief.New(api.Settings{MaxSpeed: speed, MaxGap: gap})
			if e != want || (l != nil) != (want == api.OK) {
				t.Errorf("New(%d, %d) = %v, %d; want %d", speed, gap, l, e, want)
			}
		}
	}
	l := logOf(t, usual)
	x, e := l.AsOf(0)
	if l.Last() != 0 || l.Horizon() != 0 || !x.Equal(intake.New()) || e != api.OK {
		t.Errorf("a new log has the beliefs %d to %d", l.Horizon(), l.Last())
	}
}

func TestP30_1Add(t *testing.T) {
	l := logOf(t, usual)
	for k, c := range []struct {
		b    api.Batch
		n    int
		e    api.Errno
		size int
	}{
		{batch("1.0"), 1, api.OK, 1}, {batch(""), 2, api.OK, 1}, {batch("1.0, 1.0"), 3, api.OK, 1}, {batch("1.0, 2.0 | 0>1 5, 0>1 5"), 4, api.OK, 3},
		{batch("3.0, 0.0 t-1"), 0, api.ErrId, 3}, {batch("3.0, 3.1 t-1, 0.0 | 1>1 0"), 0, api.ErrTime, 3}, {batch("3.0, 3.1 v-1"), 0, api.ErrRange, 3}, {batch("3.0 | 0>2 5, 2>2 0"), 0, api.ErrDuplicate, 3}, {batch("3.0 | 0>-1 0"), 0, api.ErrRange, 3},
		{api.Batch{Reports: crowd(9, 4095)}, 0, api.ErrLimit, 3}, {api.Batch{Reports: crowd(9, 4097)}, 0, api.ErrLimit, 3}, {api.Batch{Reports: append(crowd(9, 4094), crowd(9, 9)...)}, 5, api.OK, 4097}, {batch("9.0, 9.7 t7"), 6, api.OK, 4097}, {batch("3.0"), 0, api.ErrLimit, 4097}, {batch("| 1>0 -4"), 7, api.OK, 4098},
	} {
		n, e := l.Add(c.b)
		x, _ := l.AsOf(l.Last())
		if size := len(x.Reports()) + len(x.Exchanges()); n != c.n || e != c.e || size != c.size {
			t.Errorf("%d: Add = %d, %d, with %d in all; want %d, %d, %d", k, n, e, size, c.n, c.e, c.size)
		}
		if e == api.OK && l.Last() != n {
			t.Errorf("%d: Last = %d", k, l.Last())
		}
	}
	if l.Last() != 7 {
		t.Errorf("Last = %d", l.Last())
	}
}

// As many batches as permitted, and one more; those that are forgotten count, too.
func TestP30_1Limit(t *testing.T) {
	l := logOf(t, usual)
	for k := range belief.MaxBeliefs {
		if n, e := l.Add(api.Batch{Reports: crowd(1, k%5)}); n != k+1 || e != api.OK {
			t.Fatalf("Add = %d, %d", n, e)
		}
	}
	if belief.MaxBeliefs != 1024 || l.Last() != 1024 {
		t.Errorf("Last = %d", l.Last())
	}
	full := func() {
		t.Helper()
		for _, b := range batches("", "1.0", "0.0", "2.0") {
			if n, e := l.Add(b); n != 0 || e != api.ErrLimit || l.Last() != 1024 {
				t.Errorf("Add(%s) = %d, %d", showBatch(b), n, e)
			}
		}
	}
	full()
	if e := l.Forget(1000); e != api.OK || l.Horizon() != 1000 {
		t.Errorf("Forget = %d", e)
	}
	full()
	if objects, e := l.Objects(1024); showObjects(objects) != "1: [0 3] 0 0" || e != api.OK {
		t.Errorf("Objects = %s, %d", showObjects(objects), e)
	}
}

func TestP30_2(t *testing.T) {
	all := batches("1.0", "1.2 t4 x4, 1.2 t4 x4", "1.1 t2 x2 y2, 1.0", "", "7.0 t3 x9, 1.1 t2 x2 y2 | 1>0 3, 0>1 9, 1>0 3", "7.0 v1 c, 2.5, 2.5 v3, 2.5 v2 | 0>2 1")
	want := []string{"1.0 |", "1.2 t4 x4 |", "1.0, 1.1 t2 x2 y2 |", "|", "1.1 t2 x2 y2, 7.0 t3 x9 | 0>1 9, 1>0 3", "2.5, 2.5 v2, 2.5 v3, 7.0 v1 c | 0>2 1"}
	l := logOf(t, usual, all...)
	for _, horizon := range []int{0, 1, 4, 6} {
		if e := l.Forget(horizon); e != api.OK || l.Horizon() != horizon || l.Last() != 6 {
			t.Errorf("Forget(%d) = %d, the horizon is %d, the last belief %d", horizon, e, l.Horizon(), l.Last())
		}
		for n := 1; n <= 6; n++ {
			b, e := l.Batch(n)
			switch {
			case n <= horizon && (e != api.ErrBelief || len(b.Reports)+len(b.Exchanges) > 0), n > horizon && (e != api.OK || showBatch(b) != want[n-1]):
				t.Errorf("behind %d, Batch(%d) = %s, %d; want %s", horizon, n, showBatch(b), e, want[n-1])
			}
		}
		for _, n := range []int{0, -1, 7, math.MinInt, math.MaxInt} {
			if b, e := l.Batch(n); e != api.ErrBelief || len(b.Reports)+len(b.Exchanges) > 0 {
				t.Errorf("Batch(%d) = %s, %d", n, showBatch(b), e)
			}
		}
	}
}

func TestP30_2Drawn(t *testing.T) {
	logs(t, 100, func(l *belief.Log, history []api.Batch, s api.Settings, horizon int) {
		for n := horizon + 1; n <= len(history); n++ {
			b, e := l.Batch(n)
			x := intake.New()
			x.Add(history[n-1])
			if e != api.OK || !slices.Equal(b.Reports, report.Set(history[n-1].Reports)) || !slices.Equal(b.Exchanges, x.Exchanges()) {
				t.Errorf("Batch(%d) = %s, %d; want those of %s", n, showBatch(b), e, showBatch(history[n-1]))
			}
		}
		if l.Last() != len(history) || l.Horizon() != horizon {
			t.Errorf("the beliefs %d to %d; want %d to %d", l.Horizon(), l.Last(), horizon, len(history))
		}
	})
}

func TestP30_6(t *testing.T) {
	l := logOf(t, usual, batches("1.0", "1.2 t4 x4", "1.1 t2 x2 y2", "2.0")...)
	for _, c := range []struct {
		n       int
		e       api.Errno
		horizon int
	}{
		{-1, api.ErrBelief, 0}, {5, api.ErrBelief, 0}, {math.MinInt, api.ErrBelief, 0}, {math.MaxInt, api.ErrBelief, 0}, {0, api.OK, 0}, {2, api.OK, 2}, {1, api.OK, 2}, {0, api.OK, 2}, {2, api.OK, 2}, {-1, api.ErrBelief, 2}, {3, api.OK, 3}, {5, api.ErrBelief, 3}, {4, api.OK, 4}, {4, api.OK, 4}, {1, api.OK, 4}, {5, api.ErrBelief, 4},
	} {
		if e := l.Forget(c.n); e != c.e || l.Horizon() != c.horizon || l.Last() != 4 {
			t.Errorf("Forget(%d) = %d, the horizon is %d; want %d, %d", c.n, e, l.Horizon(), c.e, c.horizon)
		}
	}
	if n, e := l.Add(batch("2.1")); n != 5 || e != api.OK || l.Horizon() != 4 {
		t.Errorf("Add = %d, %d", n, e)
	}
	if objects, e := l.Objects(5); showObjects(objects) != "1: [0 2] 0,1 0,1; (2 4] 0,1 4,-1 | 2: [0 0] 0 0" || e != api.OK {
		t.Errorf("Objects = %s, %d", showObjects(objects), e)
	}
	if x, e := l.AsOf(4); len(x.Reports()) != 4 || e != api.OK {
		t.Errorf("AsOf = %s, %d", notation.ShowReports(x.Reports()), e)
	}
}

func TestP30_7Clone(t *testing.T) {
	logs(t, 60, func(l *belief.Log, history []api.Batch, s api.Settings, horizon int) {
		want := says(l)
		k := l.Clone()
		if says(k) != want || !k.Equal(l) || !l.Equal(k) {
			t.Errorf("the clone says %s; want %s", says(k), want)
		}
		// What happens to the one, does not happen to the other.
		l.Add(batch("1.7 t30 x3, 2.0 v5 c"))
		l.Forget(l.Last())
		if says(k) != want || k.Equal(l) {
			t.Errorf("the clone says %s; want %s", says(k), want)
		}
		changed := says(l)
		k.Add(batch("2.1 t30 x3"))
		k.Forget(k.Last() - 1)
		if says(l) != changed {
			t.Errorf("the log says %s; want %s", says(l), changed)
		}
	})
}

// How much a log may still contain is known to its clones, and to each of them by itself.
func TestP30_7CloneLimit(t *testing.T) {
	l := logOf(t, usual, api.Batch{Reports: crowd(1, api.MaxReports-1)})
	k := l.Clone()
	for _, c := range []struct {
		l            *belief.Log
		first, other string
	}{{l, "2.0", "3.0"}, {k, "3.0", "2.0"}} {
		if n, e := c.l.Add(batch(c.first)); n != 2 || e != api.OK {
			t.Errorf("Add = %d, %d", n, e)
		}
		if n, e := c.l.Add(batch(c.other)); n != 0 || e != api.ErrLimit {
			t.Errorf("Add of too much = %d, %d", n, e)
		}
	}
	if n, e := l.Add(batch("2.0, 1.5 t5")); n != 3 || e != api.OK {
		t.Errorf("Add of what is known = %d, %d", n, e)
	}
}

func TestP30_7Equal(t *testing.T) {
	const a, b, c = "1.0, 2.0 x4 | 0>1 3", "1.1 t4", "| 1>0 5"
	base := logOf(t, usual, batches(a, b, c)...)
	forget := func(l *belief.Log, n int) *belief.Log {
		if e := l.Forget(n); e != api.OK {
			t.Errorf("Forget(%d) = %d", n, e)
		}
		return l
	}
	for k, o := range []struct {
		l    *belief.Log
		want bool
	}{
		{base, true}, {logOf(t, usual, batches("2.0 x4, 1.0, 1.0 | 0>1 3, 0>1 3", b, c)...), true}, {base.Clone(), true},
		{logOf(t, usual), false}, {logOf(t, usual, batches(a, b)...), false}, {logOf(t, usual, batches(a, b, c, "")...), false}, {logOf(t, usual, batches(a, c, b)...), false}, {logOf(t, usual, batches(a, b+", 1.0", c)...), false}, {logOf(t, usual, batches("1.0, 2.0 x4", b, c)...), false}, {logOf(t, usual, batches(a, b, c+", 2>0 1")...), false}, {logOf(t, usual, batches(a, b, "| 1>0 6")...), false}, {logOf(t, usual, batches(a, "1.1 t5", c)...), false},
		{logOf(t, api.Settings{MaxSpeed: 9, MaxGap: 10}, batches(a, b, c)...), false}, {logOf(t, api.Settings{MaxSpeed: 10, MaxGap: 9}, batches(a, b, c)...), false}, {forget(base.Clone(), 1), false}, {forget(base.Clone(), 3), false},
	} {
		if base.Equal(o.l) != o.want || o.l.Equal(base) != o.want {
			t.Errorf("%d: Equal = %v", k, base.Equal(o.l))
		}
	}
	// Of what is forgotten, only what it implies at the horizon is compared.
	for k, o := range []struct {
		history []api.Batch
		n       int
		want    bool
	}{
		{batches(b, a, c), 2, true}, {batches("", join2(a, b), c), 2, true}, {batches(b, a, c), 3, true}, {batches(a, c, b), 3, true}, {batches(b, a, c), 1, false}, {batches(a, b+", 3.0", c), 2, false}, {batches(join2(a, b), c), 1, false}, {batches(join2(a, b), c), 2, false}, {batches(a, b, "| 1>0 6"), 2, false}, {batches(a, b, "| 1>0 6"), 3, false}, {batches(a, b, c, ""), 3, false}, {batches("", "", a, b, c), 3, false},
	} {
		forgotten, l := forget(base.Clone(), o.n), forget(logOf(t, usual, o.history...), o.n)
		if forgotten.Equal(l) != o.want || l.Equal(forgotten) != o.want {
			t.Errorf("%d: Equal = %v", k, forgotten.Equal(l))
		}
	}
	// The same intake at the horizon, and the same batches behind it, with other numbers.
	if l, o := forget(base.Clone(), 1), forget(logOf(t, usual, batches("", a, b, c)...), 2); l.Equal(o) || o.Equal(l) {
		t.Error("logs with different horizons are equal")
	}
}

// join2 returns the string of what is in two batches.
func join2(a, b string) string { return showBatch(join(batch(a), batch(b))) }

func TestP30Nil(t *testing.T) {
	var none *belief.Log
	for _, b := range batches("", "1.0", "0.0") {
		if n, e := none.Add(b); n != 0 || e != api.ErrArgument {
			t.Errorf("Add = %d, %d", n, e)
		}
	}
	for _, n := range []int{0, 1, -1} {
		if b, e := none.Batch(n); len(b.Reports)+len(b.Exchanges) > 0 || e != api.ErrArgument {
			t.Errorf("Batch(%d) = %s, %d", n, showBatch(b), e)
		}
		if x, e := none.AsOf(n); x != nil || e != api.ErrArgument {
			t.Errorf("AsOf(%d) = %v, %d", n, x, e)
		}
		if l, e := none.Objects(n); len(l) > 0 || e != api.ErrArgument {
			t.Errorf("Objects(%d) = %v, %d", n, l, e)
		}
		if l, e := none.Trajectory(n, 1); len(l) > 0 || e != api.ErrArgument {
			t.Errorf("Trajectory(%d) = %v, %d", n, l, e)
		}
		if l, e := none.Changed(n, 0); len(l) > 0 || e != api.ErrArgument {
			t.Errorf("Changed(%d) = %v, %d", n, l, e)
		}
		if l, e := none.History(n, rat("1")); len(l) > 0 || e != api.ErrArgument {
			t.Errorf("History(%d) = %v, %d", n, l, e)
		}
		if e := none.Forget(n); e != api.ErrArgument {
			t.Errorf("Forget(%d) = %d", n, e)
		}
	}
	l := logOf(t, usual)
	if none.Last() != 0 || none.Horizon() != 0 || none.Clone() != nil || !none.Equal(nil) || none.Equal(l) || l.Equal(nil) {
		t.Error("a nil log is not as it should be")
	}
}

// A log that New has not made is no log; but nothing panics.
func TestZero(t *testing.T) {
	l := new(belief.Log)
	says(l)
	l.Add(batch("1.0"))
	l.Forget(0)
	l.Clone().Add(batch("1.0"))
	l.Equal(logOf(t, usual))
	logOf(t, usual).Equal(l)
	for _, x := range notation.Wrong() {
		logOf(t, usual, batch("1.0, 1.1 t4 x2")).History(1, x.P)
	}
}

// Results and what was added share no memory with the log.
func TestP30Arguments(t *testing.T) {
	const s = "1.3 t9, 1.0 t4, 1.3 t9, 1.1 t4 d2 | 0>2 9, 3>1 2, 0>2 9"
	b := batch(s)
	l := logOf(t, usual, b, batch("1.5 t20"))
	if showBatch(b) != s {
		t.Errorf("Add changed %s to %s", s, showBatch(b))
	}
	want := says(l)
	expect := func(what string) {
		t.Helper()
		if says(l) != want {
			t.Errorf("%s changes what the log says to %s", what, says(l))
		}
	}
	clear(b.Reports)
	clear(b.Exchanges)
	expect("what was added")
	for _, k := range []*belief.Log{l, l.Clone()} {
		got, _ := k.Batch(1)
		clear(got.Reports[:cap(got.Reports)])
		clear(got.Exchanges[:cap(got.Exchanges)])
		expect("a batch")
		for n := range 3 {
			x, _ := k.AsOf(n)
			x.Add(batch("4.0"))
			expect("an intake")
			objects, _ := k.Objects(n)
			for _, o := range objects {
				clear(o.Units)
			}
			way, _ := k.Trajectory(n, 1)
			clear(way)
			expect("a trajectory")
		}
		h, _ := k.History(1, rat("9"))
		clear(h)
		changed, _ := k.Changed(0, 2)
		clear(changed)
		expect("a list")
	}
	l.Forget(1)
	want = says(l)
	x, _ := l.AsOf(1)
	x.Add(batch("4.0"))
	expect("an intake at the horizon")
}

// The last belief depends on the set of all reports and exchanges only; a batch that is known changes no trajectory.
func TestP30_8(t *testing.T) {
	draw := draws.From(113)
	logs(t, 150, func(l *belief.Log, history []api.Batch, s api.Settings, horizon int) {
		want, _ := l.Objects(l.Last())
		other := logOf(t, s, shuffled(history, draw)...)
		once := logOf(t, s, join(history...), join(shuffled(history, draw)...))
		for _, o := range []*belief.Log{other, once} {
			if got, _ := o.Objects(o.Last()); showObjects(got) != showObjects(want) {
				t.Errorf("the objects are %s; want %s", showObjects(got), showObjects(want))
			}
		}
		if got, e := once.Changed(1, 2); len(got) != 0 || e != api.OK {
			t.Errorf("what is known changes %v, %d", got, e)
		}
		// Neither later batches nor forgetting earlier ones change a belief.
		before := make([]string, l.Last()+1)
		for n := horizon; n <= l.Last(); n++ {
			objects, _ := l.Objects(n)
			before[n] = showObjects(objects)
		}
		last := l.Last()
		l.Add(batch("1.2 v9 c, 2.7 v9 t31, 3.0 t5 | 0>1 1, 1>0 9, 0>2 2"))
		for horizon := range last + 1 {
			l.Forget(horizon)
			for n := l.Horizon(); n <= last; n++ {
				if objects, e := l.Objects(n); showObjects(objects) != before[n] || e != api.OK {
					t.Errorf("the belief %d became %s; want %s", n, showObjects(objects), before[n])
				}
			}
		}
	})
}
