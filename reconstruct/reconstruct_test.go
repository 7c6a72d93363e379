package reconstruct_test

import (
	"slices"
	"strconv"
	"testing"

	"viator/api"
	"viator/intake"
	"viator/lists"
	"viator/movingpoint"
	"viator/movingregion"
	"viator/notation"
	"viator/period"
	"viator/plane"
	"viator/rational"
	"viator/real"
	"viator/reconstruct"
)

// clocks are exchanges: the clock of the device 1 is 9/2 fast, and there is no way back from the device 2.
const clocks = " | 0>1 5, 1>0 -4, 0>2 7"

func TestP28_3Examples(t *testing.T) {
	for _, c := range []struct{ s, reports, kept string }{
		{"", "", ""}, {"2.0", "", ""}, {"1.0 t0, 1.1 t1 x9, 1.2 t2 x4, 1.3 t9 x4", "0 1.0, 1 1.1 t1 x9, 2 1.2 t2 x4, 9 1.3 t9 x4", "0 1.0, 2 1.2 t2 x4, 9 1.3 t9 x4"}, {"1.5 t0, 1.4 t0 x1, 1.3 t1 x1", "0 1.4 x1, 0 1.5, 1 1.3 t1 x1", "0 1.4 x1, 1 1.3 t1 x1"}, {"1.0 t0 x99, 1.1 t1, 1.2 t2 x1", "0 1.0 x99, 1 1.1 t1, 2 1.2 t2 x1", "1 1.1 t1, 2 1.2 t2 x1"}, {"1.0 t5, 1.1 t3", "3 1.1 t3, 5 1.0 t5", "3 1.1 t3, 5 1.0 t5"},
		// Reports that do not count, and those of other objects.
		{"1.0 t0, 1.0 v1 t3, 1.1 t5 c, 2.0 t4, 1.2 t4, 1.2 v1 t4 c", "3 1.0 v1 t3", "3 1.0 v1 t3"},
		// The times by the clock of the server.
		{"1.0 t6, 1.1 t9 d1, 1.2 t5 d2" + clocks, "9/2 1.1 t9 d1, 6 1.0 t6", "9/2 1.1 t9 d1, 6 1.0 t6"}, {"1.0 t6, 1.1 t10 x1 d1" + clocks, "11/2 1.1 t10 x1 d1, 6 1.0 t6", "11/2 1.1 t10 x1 d1, 6 1.0 t6"}, {"1.0 t6, 1.1 t10 x2 d1" + clocks, "11/2 1.1 t10 x2 d1, 6 1.0 t6", "11/2 1.1 t10 x2 d1"}, {"1.0 d2" + clocks, "", ""},
	} {
		x := from(t, batch(c.s))
		if got, e := reconstruct.Reports(x, 1); showTimed(got) != c.reports || e != api.OK {
			t.Errorf("Reports(%s) = %s, %d; want %s", c.s, showTimed(got), e, c.reports)
		}
		if got, e := reconstruct.KeptOf(x, 1, api.Settings{MaxSpeed: 2, MaxGap: 5}); showTimed(got) != c.kept || e != api.OK {
			t.Errorf("KeptOf(%s) = %s, %d; want %s", c.s, showTimed(got), e, c.kept)
		}
	}
}

func TestP28_3(t *testing.T) {
	skipped, halves := 0, 0
	each(t, func(x *intake.Intake, object int, s api.Settings) {
		got, e := reconstruct.Reports(x, object)
		if !slices.Equal(got, x.Of(object)) || e != api.OK {
			t.Errorf("Reports = %s, %d", showTimed(got), e)
		}
		inOrder := slices.IsSortedFunc(got, func(a, b intake.Timed) int {
			if order := rational.Compare(a.T, b.T); order != 0 {
				return order
			}
			return a.Report.Seq - b.Report.Seq
		})
		if !inOrder {
			t.Errorf("Reports = %s", showTimed(got))
		}
		want := kept(t, x, object, s)
		chain, e := reconstruct.KeptOf(x, object, s)
		if !slices.Equal(chain, want) || e != api.OK {
			t.Errorf("KeptOf = %s, %d; want %s", showTimed(chain), e, showTimed(want))
		}
		if len(want) < len(got) {
			skipped++
		}
		if slices.ContainsFunc(want, func(r intake.Timed) bool { return rational.Den(r.T).Mag == "\x02" }) {
			halves++
		}
	})
	if min(skipped, halves) < 100 {
		t.Errorf("%d chains leave something out, %d have times that are not whole", skipped, halves)
	}
}

// As many reports as permitted, and one more.
func TestP28_3Limit(t *testing.T) {
	s := api.Settings{MaxSpeed: 1, MaxGap: 1}
	x := crowd(t, 256)
	if l, e := reconstruct.Reports(x, 1); len(l) != reconstruct.MaxTimed || e != api.OK {
		t.Errorf("Reports has %d elements, and the error %d", len(l), e)
	}
	if l, e := reconstruct.KeptOf(x, 1, s); len(l) != 256 || e != api.OK {
		t.Errorf("KeptOf has %d elements, and the error %d", len(l), e)
	}
	if u, e := reconstruct.Trajectory(x, 1, s); showUnits(u) != "[0 255] 0 0" || e != api.OK {
		t.Errorf("Trajectory = %s, %d", showUnits(u), e)
	}
	if g, e := reconstruct.Gaps(x, 1, s); len(g) != 0 || e != api.OK {
		t.Errorf("Gaps = %s, %d", notation.ShowPeriod(g), e)
	}
	if l, e := reconstruct.Objects(x, s); len(l) != 2 || e != api.OK {
		t.Errorf("Objects = %v, %d", l, e)
	}
	x = crowd(t, 257)
	if l, e := reconstruct.Reports(x, 1); len(l) != 0 || e != api.ErrLimit {
		t.Errorf("Reports has %d elements, and the error %d", len(l), e)
	}
	if l, e := reconstruct.KeptOf(x, 1, s); len(l) != 0 || e != api.ErrLimit {
		t.Errorf("KeptOf has %d elements, and the error %d", len(l), e)
	}
	if u, e := reconstruct.Trajectory(x, 1, s); len(u) != 0 || e != api.ErrLimit {
		t.Errorf("Trajectory = %s, %d", showUnits(u), e)
	}
	if g, e := reconstruct.Gaps(x, 1, s); len(g) != 0 || e != api.ErrLimit {
		t.Errorf("Gaps = %s, %d", notation.ShowPeriod(g), e)
	}
	if l, e := reconstruct.Objects(x, s); len(l) != 0 || e != api.ErrLimit {
		t.Errorf("Objects = %v, %d", l, e)
	}
	if d, e := reconstruct.Database(x, s, []api.Zone{{Name: "a"}}); len(d.Objects)+len(d.Zones) != 0 || e != api.ErrLimit {
		t.Errorf("Database = %v, %d", d, e)
	}
	if u, e := reconstruct.Trajectory(x, 2, s); showUnits(u) != "[0 0] 0 0" || e != api.OK {
		t.Errorf("the Trajectory of another object = %s, %d", showUnits(u), e)
	}
	for r, want := range map[string]struct {
		becomes int
		e       api.Errno
	}{
		"1.0 v1": {0, api.ErrLimit}, "1.256 v1 t256": {0, api.ErrLimit}, "1.0": {reconstruct.Superseded, api.OK}, "1.0 t1": {reconstruct.Absent, api.OK}, "1.9000 d2": {reconstruct.Untimed, api.OK}, "1.9002 c": {reconstruct.Withdrawn, api.OK}, "2.0": {reconstruct.Kept, api.OK},
	} {
		if got, e := reconstruct.Explain(x, one(r), s); got != want.becomes || e != want.e {
			t.Errorf("Explain(%s) = %d, %d; want %d, %d", r, got, e, want.becomes, want.e)
		}
	}
}

func TestP28_4Examples(t *testing.T) {
	for _, c := range []struct {
		s     string
		gap   int
		units string
		gaps  string
	}{
		{"", 5, "", ""}, {"3 1.0 x4 y-5", 5, "[3 3] 4 -5", ""}, {"0 1.0, 2 1.2 x4, 9 1.3 x4", 5, "[0 2] 0,2 0; [9 9] 4 0", "(2 9)"}, {"0 1.0, 2 1.2 x4, 9 1.3 x4", 7, "[0 2] 0,2 0; (2 9] 4 0", ""}, {"0 1.0, 2 1.2 x4, 9 1.3 x4", 6, "[0 2] 0,2 0; [9 9] 4 0", "(2 9)"}, {"0 1.0, 2 1.2 x4, 9 1.3 x4", 2, "[0 2] 0,2 0; [9 9] 4 0", "(2 9)"}, {"0 1.0, 2 1.2 x4, 9 1.3 x4", 1, "[0 0] 0 0; [2 2] 4 0; [9 9] 4 0", "(0 2), (2 9)"},
		// Reports on a line with the same speed make one unit.
		{"0 1.0, 1 1.1 x1, 2 1.2 x2, 4 1.3 x4, 5 1.4 x4 y1", 2, "[0 4] 0,1 0; (4 5] 4 -4,1", ""}, {"0 1.0, 1 1.1 x1, 2 1.2 x2, 4 1.3 x4, 5 1.4 x4 y1", 1, "[0 2] 0,1 0; [4 5] 4 -4,1", "(2 4)"},
		// Gaps at the beginning and at the end, and times that are not whole.
		{"1/2 1.0, 6 1.1 x1, 13/2 1.2 x2, 12 1.3", 5, "[1/2 1/2] 0 0; [6 13/2] -11,2 0; [12 12] 0 0", "(1/2 6), (13/2 12)"}, {"-3/2 1.0 x1, 7/2 1.1 y2, 26/3 1.2 y2", 5, "[-3/2 7/2] 7/10,-1/5 3/5,2/5; [26/3 26/3] 0 2", "(7/2 26/3)"}, {"-3/2 1.0 x1, 7/2 1.1 y2, 26/3 1.2 y2", 6, "[-3/2 7/2] 7/10,-1/5 3/5,2/5; (7/2 26/3] 0 2", ""}, {"0 1.0, 5 1.1, 3000000001/300000000 1.2", 5, "[0 5] 0 0; [3000000001/300000000 3000000001/300000000] 0 0", "(5 3000000001/300000000)"},
	} {
		s := api.Settings{MaxSpeed: 9, MaxGap: c.gap}
		if got := reconstruct.Through(timed(c.s), s); showUnits(got) != c.units {
			t.Errorf("Through(%s; %d) = %s; want %s", c.s, c.gap, showUnits(got), c.units)
		}
		checkTrajectory(t, reconstruct.Through(timed(c.s), s), timed(c.s), s)
	}
}

// between returns a time between two other ones, and the place at this time.
func between(a, b intake.Timed, part api.Rat) (api.Rat, api.Point) {
	t := rational.Add(a.T, rational.Mul(part, rational.Sub(b.T, a.T)))
	p, q := plane.At(a.Report.X, a.Report.Y), plane.At(b.Report.X, b.Report.Y)
	return t, plane.Add(p, plane.Scale(plane.Sub(q, p), part))
}

// checkTrajectory tests that a moving point is the trajectory through a chain: its times of definition, its positions, and that it is linear between two reports.
func checkTrajectory(t *testing.T, u []api.PointUnit, chain []intake.Timed, s api.Settings) {
	t.Helper()
	wrong := func(what string) { t.Errorf("%s, which leads through %s: %s", showUnits(u), showTimed(chain), what) }
	if movingpoint.Check(u) != api.OK {
		wrong("no moving point")
	}
	var domain []api.Interval
	for k, r := range chain {
		domain = append(domain, period.Closed(r.T, r.T)...)
		if p, found := movingpoint.AtRat(u, r.T); !found || p != plane.At(r.Report.X, r.Report.Y) {
			wrong("the position at " + rational.Print(r.T))
		}
		if k+1 == len(chain) {
			continue
		}
		next := chain[k+1]
		linked := rational.Sign(rational.Sub(rational.Sub(next.T, r.T), rational.FromInt(s.MaxGap))) <= 0
		if linked {
			domain = append(domain, period.Closed(r.T, next.T)...)
		}
		for _, part := range []string{"1/9", "1/2", "7/8"} {
			at, want := between(r, next, rat(part))
			if p, found := movingpoint.AtRat(u, at); found != linked || found && p != want {
				wrong("the position at " + rational.Print(at))
			}
		}
	}
	if !period.Equal(movingpoint.Domain(u), period.Normal(domain)) {
		wrong("the times")
	}
	for _, at := range movingpoint.Turns(u) {
		if !slices.ContainsFunc(chain, func(r intake.Timed) bool { return real.FromRat(r.T) == at }) {
			wrong("a turn at " + real.Print(at))
		}
	}
	if len(movingpoint.Jumps(u)) > 0 {
		wrong("a jump")
	}
}

func TestP28_4(t *testing.T) {
	gaps, linked := 0, 0
	for _, l := range walks() {
		for _, s := range settings {
			var chain []intake.Timed
			for _, k := range reconstruct.Chain(l, s) {
				chain = append(chain, l[k])
			}
			u := reconstruct.Through(chain, s)
			checkTrajectory(t, u, chain, s)
			parts := movingpoint.Domain(u)
			gaps += max(len(parts)-1, 0)
			linked += len(chain) - len(parts)
		}
	}
	if min(gaps, linked) < 300 {
		t.Errorf("%d gaps and %d parts", gaps, linked)
	}
	each(t, func(x *intake.Intake, object int, s api.Settings) {
		u, e := reconstruct.Trajectory(x, object, s)
		if e != api.OK {
			t.Errorf("Trajectory: %d", e)
		}
		checkTrajectory(t, u, kept(t, x, object, s), s)
	})
}

// As many units as there can be.
func TestP28_4Limit(t *testing.T) {
	var b api.Batch
	for k := range reconstruct.MaxTimed {
		b.Reports = append(b.Reports, api.Report{Object: 1, Seq: k, Time: 2 * k, X: k % 2})
	}
	x := from(t, b)
	for gap, want := range map[int]int{1: 256, 2: 255} {
		u, e := reconstruct.Trajectory(x, 1, api.Settings{MaxSpeed: 1, MaxGap: gap})
		if len(u) != want || e != api.OK || movingpoint.Check(u) != api.OK {
			t.Errorf("%d units, and the error %d", len(u), e)
		}
	}
}

func TestP28_5Examples(t *testing.T) {
	s := api.Settings{MaxSpeed: 2, MaxGap: 5}
	for _, c := range []struct {
		s    string
		want []string
	}{
		{"", nil}, {"2.0 t4, 1.0 t1, 1.1 t2 x1", []string{"1: [1 2] -1,1 0", "2: [4 4] 0 0"}}, {"7.3 t4 x8, 7.3 t4 x7, 3.1 c, 5.0 t9, 5.0 v1 c, 1073741824.1 t1", []string{"7: [4 4] 8 0", "1073741824: [1 1] 0 0"}},
		// Objects whose reports have no times have no trajectory.
		{"2.0 d2, 1.0 d1 t7, 3.0 d2, 3.1 t4" + clocks, []string{"1: [5/2 5/2] 0 0", "3: [4 4] 0 0"}},
	} {
		objects, e := reconstruct.Objects(from(t, batch(c.s)), s)
		if got := showObjects(objects); !slices.Equal(got, c.want) || e != api.OK {
			t.Errorf("Objects(%s) = %s, %d; want %s", c.s, got, e, c.want)
		}
		d, e := reconstruct.Database(from(t, batch(c.s)), s, nil)
		if got := showObjects(d.Objects); !slices.Equal(got, c.want) || len(d.Zones) > 0 || e != api.OK {
			t.Errorf("Database(%s) = %v, %d; want %s", c.s, d, e, c.want)
		}
	}
}

// showObjects returns strings that show the ids of objects, and their units.
func showObjects(l []api.Object) []string {
	return lists.Convert(l, func(o api.Object) string { return strconv.Itoa(o.Id) + ": " + showUnits(o.Units) })
}

func TestP28_5(t *testing.T) {
	for k, b := range arrivals() {
		x, s := from(t, b), settings[k%len(settings)]
		var want []api.Object
		for id := range 5 {
			if u, _ := reconstruct.Trajectory(x, id, s); len(x.Of(id)) > 0 {
				want = append(want, api.Object{Id: id, Units: u})
			}
		}
		got, e := reconstruct.Objects(x, s)
		if !slices.Equal(showObjects(got), showObjects(want)) || e != api.OK {
			t.Errorf("Objects(%s) = %s, %d; want %s", notation.ShowBatch(b), showObjects(got), e, showObjects(want))
		}
	}
}

// As many objects as permitted, and one more.
func TestP28_5Limit(t *testing.T) {
	s := api.Settings{MaxSpeed: 2, MaxGap: 5}
	b := batch("1000.0 d2, 1001.0 c, 1002.0 d2" + clocks)
	for id := 1; id <= 64; id++ {
		b.Reports = append(b.Reports, api.Report{Object: id})
	}
	x := from(t, b)
	if l, e := reconstruct.Objects(x, s); len(l) != api.MaxObjects || e != api.OK {
		t.Errorf("%d Objects, and the error %d", len(l), e)
	}
	x.Add(batch("65.0 t4"))
	if l, e := reconstruct.Objects(x, s); len(l) != 0 || e != api.ErrLimit {
		t.Errorf("%d Objects, and the error %d", len(l), e)
	}
	if d, e := reconstruct.Database(x, s, []api.Zone{{Name: "a"}}); len(d.Objects)+len(d.Zones) != 0 || e != api.ErrLimit {
		t.Errorf("Database = %v, %d", d, e)
	}
	if u, e := reconstruct.Trajectory(x, 65, s); len(u) != 1 || e != api.OK {
		t.Errorf("Trajectory = %s, %d", showUnits(u), e)
	}
}

func TestP28_5Database(t *testing.T) {
	const a, b = "[0 1) 0:0 9:0 0:9 | 1:1 2:1 1:2 | 3:1 4:1 3:2; (1 2] 0:0 9,1:0 0:9", "[3 4] 5:5 6:5 5:6"
	zones := []api.Zone{{Name: "a", Units: notation.RegionUnits(a)}, {Name: "b", Units: notation.RegionUnits(b)}, {Name: "empty"}}
	x, s := from(t, batch("1.0 t4")), api.Settings{MaxSpeed: 2, MaxGap: 5}
	isRight := func(zones []api.Zone) bool {
		return len(zones) == 3 && zones[0].Name == "a" && notation.ShowRegionUnits(zones[0].Units) == a && zones[1].Name == "b" && notation.ShowRegionUnits(zones[1].Units) == b && zones[2].Name == "empty" && len(zones[2].Units) == 0
	}
	first, e := reconstruct.Database(x, s, zones)
	if !isRight(first.Zones) || len(first.Objects) != 1 || e != api.OK {
		t.Errorf("Database = %v, %d", first, e)
	}
	// The zones share no memory with the arguments.
	second, _ := reconstruct.Database(x, s, zones)
	for _, l := range [][]api.Zone{first.Zones, zones} {
		for _, z := range l {
			for _, u := range z.Units {
				for _, ring := range u.Holes {
					clear(ring[:cap(ring)])
				}
				clear(u.Outer)
				clear(u.Holes[:cap(u.Holes)])
			}
			clear(z.Units[:cap(z.Units)])
		}
		clear(l[:cap(l)])
		if !isRight(second.Zones) {
			t.Errorf("the zones became %v", second.Zones)
		}
	}
	if e := movingregion.Check(second.Zones[0].Units); e != api.OK {
		t.Errorf("Check = %d", e)
	}
}

func TestP28_6Gaps(t *testing.T) {
	for _, c := range []struct {
		s    string
		gap  int
		want string
	}{
		{"", 5, ""}, {"1.0", 5, ""}, {"1.0, 1.1 t1 x9, 1.2 t2 x4, 1.3 t9 x4", 5, "(2 9)"}, {"1.0, 1.1 t1 x9, 1.2 t2 x4, 1.3 t9 x4", 1, "(0 2), (2 9)"}, {"1.0, 1.1 t1 x9, 1.2 t2 x4, 1.3 t9 x4", 7, ""}, {"1.0, 1.1 t5, 1.2 t9 d1, 1.3 t20" + clocks, 4, "(0 9/2), (5 20)"}, {"1.0, 1.1 t5, 2.2 t2, 1.3 t2 d2, 1.4 t3, 1.4 v1 c" + clocks, 4, "(0 5)"},
	} {
		s := api.Settings{MaxSpeed: 2, MaxGap: c.gap}
		if got, e := reconstruct.Gaps(from(t, batch(c.s)), 1, s); notation.ShowPeriod(got) != c.want || e != api.OK {
			t.Errorf("Gaps(%s; %d) = %s, %d; want %s", c.s, c.gap, notation.ShowPeriod(got), e, c.want)
		}
	}
	count := 0
	each(t, func(x *intake.Intake, object int, s api.Settings) {
		got, e := reconstruct.Gaps(x, object, s)
		if e != api.OK || period.Check(got) != api.OK {
			t.Errorf("Gaps = %s, %d", notation.ShowPeriod(got), e)
		}
		// Between the first and the last report of the chain, what is no gap is the domain.
		u, _ := reconstruct.Trajectory(x, object, s)
		var whole []api.Interval
		if l := kept(t, x, object, s); len(l) > 0 {
			whole = period.Closed(l[0].T, l[len(l)-1].T)
		}
		if want := period.Minus(whole, movingpoint.Domain(u)); !period.Equal(got, want) {
			t.Errorf("Gaps = %s; want %s", notation.ShowPeriod(got), notation.ShowPeriod(want))
		}
		count += len(got)
	})
	if count < 100 {
		t.Errorf("%d gaps", count)
	}
}

func TestP28_6ExplainExamples(t *testing.T) {
	const s = "1.0, 1.1 t1 x9, 1.2 t2 x4, 1.3 t9 x4, 2.1 t4 x7, 2.1 v1 t4 x8, 3.1 c, 4.1 d1 t9, 5.0 d2, 5.0 v1 d1, 6.0 d1, 6.0 v1 d2, 7.0 d2, 7.0 v1 d2 c" + clocks
	x := from(t, batch(s))
	for r, want := range map[string]int{
		"1.0": reconstruct.Kept, "1.1 t1 x9": reconstruct.Skipped, "1.2 t2 x4": reconstruct.Kept, "1.3 t9 x4": reconstruct.Kept, "2.1 t4 x7": reconstruct.Superseded, "2.1 v1 t4 x8": reconstruct.Kept, "3.1 c": reconstruct.Withdrawn, "4.1 d1 t9": reconstruct.Kept, "5.0 d2": reconstruct.Superseded, "5.0 v1 d1": reconstruct.Kept, "6.0 d1": reconstruct.Superseded, "6.0 v1 d2": reconstruct.Untimed, "7.0 d2": reconstruct.Superseded, "7.0 v1 d2 c": reconstruct.Withdrawn,
		"1.0 x1": reconstruct.Absent, "1.9": reconstruct.Absent, "3.1": reconstruct.Absent, "8.0 d2": reconstruct.Absent, "1.0 c": reconstruct.Absent, "0.0": reconstruct.Absent,
	} {
		if got, e := reconstruct.Explain(x, one(r), api.Settings{MaxSpeed: 2, MaxGap: 5}); got != want || e != api.OK {
			t.Errorf("Explain(%s) = %d, %d; want %d", r, got, e, want)
		}
	}
	if got, _ := reconstruct.Explain(x, one("1.1 t1 x9"), api.Settings{MaxSpeed: 9, MaxGap: 5}); got != reconstruct.Kept {
		t.Errorf("Explain with a greater speed = %d", got)
	}
}

func TestP28_6Explain(t *testing.T) {
	var counts [6]int
	for k, b := range arrivals() {
		x, s := from(t, b), settings[k%len(settings)]
		for _, r := range append(b.Reports, arrivals()[(k+1)%40].Reports...) {
			want := becomes(t, x, r, s)
			counts[want]++
			if got, e := reconstruct.Explain(x, r, s); got != want || e != api.OK {
				t.Errorf("Explain(%v) of %s = %d, %d; want %d", r, notation.ShowBatch(b), got, e, want)
			}
		}
	}
	if slices.Min(counts[:]) < 50 {
		t.Errorf("the numbers of what becomes of reports are %v", counts)
	}
}
