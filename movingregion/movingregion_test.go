package movingregion_test

import (
	"slices"
	"testing"

	"viator/api"
	"viator/movingnumber"
	"viator/movingpoint"
	"viator/movingregion"
	"viator/period"
	"viator/plane"
	"viator/polygon"
	"viator/rational"
	"viator/real"
)

func TestP17_2Check(t *testing.T) {
	each(func(l []api.RegionUnit) {
		if e := movingregion.Check(l); e != api.OK {
			t.Errorf("Check(%s) = %d", showUnits(l), e)
		}
	})
	for s, want := range map[string]api.Errno{
		"[0 1] 0:0 4:0 0:4; (1 2] 0:0 4:0 0:4": api.ErrForm, "[0 1) 0:0 4:0 0,4:4; [1 2] 0:0 4:0 4:4": api.ErrForm, "[1 1] 0:0 4:0 0:4,1": api.ErrForm, "[0 1] 0:0 4:0 0:4; [1 2] 0:0 4:0 0:5": api.ErrOrder, "[1 0] 0:0 4:0 0:4": api.ErrEmpty,
		"[0 1] 0:0 2:2 2:0 0:2": api.ErrShape, "[0 2] 0:0 4:0 0:4,-4": api.ErrShape, "[0 1] 0:0 4:0 0:4,-4": api.ErrShape, "[0 1) 0:0 4:0 0:4,-4": api.OK, "(1 2] 0:0 4:0 0:4,-4": api.OK, "[0 0+sqrt(2)] 0:0 0,1:1 2:0,1": api.ErrShape, "[0 0+sqrt(2)) 0:0 0,1:1 2:0,1": api.OK, "[0+sqrt(2) 0+sqrt(2)] 0:0 0,1:1 2:0,1": api.ErrShape, "[0 1] 0:0 4:0 0:4; (1 2] 0:0 4:0": api.ErrShape, "[0 1] 0:0 4:0; [1 1] 0:0 4:0": api.ErrOrder, "[0 1] 0:0 4:0; (1 2] 0:0 4:0": api.ErrForm, "[0 1] 0:0 9:0 0:9 | 1:1 2,7:1 1:2": api.ErrShape,
		"[0 1] 0:0 9:0 0:9 | 1:1 2:1 1:2 | 3:1 4:1 3:2 | 1:3 2:3 1:4": api.OK, "[0 1] 0:0 9:0 0:9 | 1:1 2:1 1:2 | 3:1 4:1 3:2 | 1:3 2:3 1:4 | 5:1 6:1 5:2": api.ErrLimit, "[0 1] 0:0 1:0 2:0 3:0 4:0 5:0 6:0 7:0 8:0 9:0 10:0 11:0 0:12": api.ErrLimit, "[0 1] 0:0 1:0 2:0 3:0 4:0 5:0 6:0 7:0 8:0 9:0 10:0 0:12": api.OK,
	} {
		if e := movingregion.Check(units(s)); e != want {
			t.Errorf("Check(%s) = %d; want %d", s, e, want)
		}
	}
	bad := units("[0 1] 0:0 4:0 0:4; [1 2] 0:0 4:0")
	if bad[0].Outer[1].X1 = wrong()[2].P; movingregion.Check(bad) != api.ErrForm {
		t.Errorf("Check of a coefficient that is not canonical = %d", movingregion.Check(bad))
	}
	many := movingregion.Static(square(0, 0, 1), nil)
	for k := range api.MaxUnits {
		many = append(many, movingregion.Static(square(k, 0, 1), period.Instant(real.FromInt(k)))...)
	}
	if e := movingregion.Check(many); e != api.OK {
		t.Errorf("Check of many = %d", e)
	}
	if e := movingregion.Check(append(many, api.RegionUnit{})); e != api.ErrLimit {
		t.Errorf("Check of too many = %d", e)
	}
}

func TestP17_2Normal(t *testing.T) {
	for s, want := range map[string]string{
		"": "", "[1 2] 0:0 1:0 0:1; [0 1) 0:0 1:0 0:1": "[0 2] 0:0 1:0 0:1", "[1 2] 0:0 4:0 4:4; [0 1) 0:0 4:0 0,4:4": "[0 1] 0:0 4:0 0,4:4; (1 2] 0:0 4:0 4:4", "[1 1] 0:0 4:0 0,4:4,1": "[1 1] 0:0 4:0 4:5", "[0+sqrt(2) 0+sqrt(2)] 0:0 4:0 0,4:4,1": "[0+sqrt(2) 0+sqrt(2)] 0:0 4:0 0,4:4,1", "[0 1) 0:0 4:0 0:4; [1 2] 4:0 0:4 0:0": "[0 1) 0:0 4:0 0:4; [1 2] 4:0 0:4 0:0", "(1 2] 0:0 4:0 0:4,-4; [0 1) 0:0 4:0 0:4,-4": "[0 1) 0:0 4:0 0:4,-4; (1 2] 0:0 4:0 0:4,-4",
	} {
		l, e := movingregion.Normal(units(s))
		if e != api.OK || showUnits(l) != want || movingregion.Check(l) != api.OK {
			t.Errorf("Normal(%s) = %s, %d; want %s", s, showUnits(l), e, want)
		}
	}
	for s, want := range map[string]api.Errno{
		"[0 1] 0:0 4:0 0:4; [1 2] 0:0 4:0 0:4": api.ErrOverlap, "[0 9] 0:0 4:0 0:4; [3 3] 0:0 5:0 0:5": api.ErrOverlap, "[0 1] 0:0 4:0 0:4; [1 2] 0:0 4:0": api.ErrShape, "[0 2] 0:0 4:0 0:4,-4": api.ErrShape, "[1 1] 0:0 4:0 0:4; [0 2] 0:0 4:0 0:4,-4": api.ErrShape, "[5 6] 0:0 4:0 0:4; [0 1] 0:0 4:0 0:4,-4": api.ErrShape,
	} {
		if l, e := movingregion.Normal(units(s)); e != want || len(l) != 0 {
			t.Errorf("Normal(%s) = %s, %d; want %d", s, showUnits(l), e, want)
		}
	}
	each(func(l []api.RegionUnit) {
		turned := slices.Clone(l)
		slices.Reverse(turned)
		if normal, e := movingregion.Normal(turned); e != api.OK || showUnits(normal) != showUnits(l) {
			t.Errorf("Normal(%s) = %s, %d", showUnits(turned), showUnits(normal), e)
		}
	})
}

func TestP17_3(t *testing.T) {
	each(func(l []api.RegionUnit) {
		for _, x := range instants(l) {
			r, isRat := real.Rational(x)
			if !isRat {
				continue
			}
			u, defined := at(l, x)
			p, ok := movingregion.At(l, r)
			if ok != defined || ok && !same(p, polygonOf(shapeOf(u), r)) || !ok && (p.Outer != nil || p.Holes != nil) {
				t.Errorf("At(%s; %s) = %s, %v", showUnits(l), real.Print(x), showPoly(p), ok)
			}
			if ok && polygon.Check(p) != api.OK {
				t.Errorf("At(%s; %s) = %s is not valid", showUnits(l), real.Print(x), showPoly(p))
			}
		}
		var intervals []api.Interval
		for _, u := range l {
			intervals = append(intervals, u.In)
		}
		if got := movingregion.Domain(l); !slices.Equal(got, period.Normal(intervals)) {
			t.Errorf("Domain(%s) = %s", showUnits(l), show(got))
		}
	})
}

func TestP17_4Static(t *testing.T) {
	park := "0:0 9:0 0:9 | 1:1 2:1 1:2"
	for _, c := range [][2]string{{"", ""}, {"[0 1), (1 0+sqrt(2)], [5 5]", "[0 1) " + park + "; (1 0+sqrt(2)] " + park + "; [5 5] " + park}, {"[0+sqrt(2) 0+sqrt(2)]", "[0+sqrt(2) 0+sqrt(2)] " + park}} {
		if l := movingregion.Static(poly(park), list(c[0])); showUnits(l) != c[1] || movingregion.Check(l) != api.OK {
			t.Errorf("Static during %s = %s", c[0], showUnits(l))
		}
	}
}

// way returns the moving point of units with intervals and lines.
func way(intervals string, lines string) []api.PointUnit {
	var l []api.PointUnit
	f := shape(lines).Outer
	for k, i := range list(intervals) {
		l = append(l, api.PointUnit{In: i, F: f[k]})
	}
	return l
}

func TestP17_4Rigid(t *testing.T) {
	park := poly("0:0 9:0 0:9 | 1:1 2:1 1:2")
	for _, l := range [][]api.PointUnit{nil, way("[0 3]", "0,1:0,1"), way("[0 2], (2 4], [5 5], [6+sqrt(2) 6+sqrt(2)]", "0,2:0 4:-6,3 1/2:7 0,1:3"), way("[0 1), [1 1], (1 2]", "0,1:0,1 7:7 0,1:0,1"), way("[0 1), (1 2]", "1/3:1 1/3:1")} {
		if e := movingpoint.Check(l); e != api.OK {
			t.Fatalf("%v is no moving point: %d", l, e)
		}
		r := movingregion.Rigid(park, l)
		if !slices.Equal(movingregion.Domain(r), movingpoint.Domain(l)) || len(r) != len(l) || movingregion.Check(r) != api.OK {
			t.Errorf("Rigid(%v) = %s", l, showUnits(r))
		}
		for _, x := range instants(r) {
			if m, isRat := real.Rational(x); isRat {
				by, defined := movingpoint.AtRat(l, m)
				if p, ok := movingregion.At(r, m); ok != defined || ok && !same(p, polygon.Translate(park, by)) {
					t.Errorf("Rigid(%v) is %s at %s", l, showPoly(p), real.Print(x))
				}
			}
		}
	}
	if r := movingregion.Rigid(poly("0:0 1:0 1:1 0:1"), way("[0 3]", "0,1:1/2,-1")); showUnits(r) != "[0 3] 0,1:1/2,-1 1,1:1/2,-1 1,1:3/2,-1 0,1:3/2,-1" {
		t.Errorf("Rigid = %s", showUnits(r))
	}
	if r := movingregion.Rigid(poly("0:0 1:0 0:1"), way("[0+sqrt(2) 0+sqrt(2)]", "0,1:1/2,-1")); showUnits(r) != "[0+sqrt(2) 0+sqrt(2)] 0,1:1/2,-1 1,1:1/2,-1 0,1:3/2,-1" {
		t.Errorf("Rigid = %s", showUnits(r))
	}
}

// fractions returns the fractions of a string.
func fractions(s string) []api.Rat {
	var l []api.Rat
	for _, x := range reals(s) {
		l = append(l, x.P)
	}
	return l
}

func polys(s ...string) []api.Polygon {
	var l []api.Polygon
	for _, one := range s {
		l = append(l, poly(one))
	}
	return l
}

func TestP17_5(t *testing.T) {
	for _, c := range []struct {
		times    string
		polygons []api.Polygon
		want     string
	}{
		{"0 2", polys("0:0 4:0 0:4", "0:0 4:0 4:4"), "[0 2] 0:0 4:0 0,2:4"}, {"3/2", polys("0:0 4:0 0:4"), "[3/2 3/2] 0:0 4:0 0:4"}, {"0 1 2", polys("0:0 4:0 0:4", "1:0 5:0 1:4", "2:0 6:0 2:4"), "[0 2] 0,1:0 4,1:0 0,1:4"}, {"-1 1 2", polys("0:0 9:0 0:9 | 1:1 2:1 1:2", "0:0 9:0 0:9 | 2:2 3:2 2:3", "0:0 9:0 0:9 | 2:2 3:2 2:5"), "[-1 1] 0:0 9:0 0:9 | 3/2,1/2:3/2,1/2 5/2,1/2:3/2,1/2 3/2,1/2:5/2,1/2; (1 2] 0:0 9:0 0:9 | 2:2 3:2 2:1,2"},
	} {
		l, e := movingregion.Snapshots(fractions(c.times), c.polygons)
		if e != api.OK || showUnits(l) != c.want || movingregion.Check(l) != api.OK {
			t.Errorf("Snapshots(%s) = %s, %d; want %s", c.times, showUnits(l), e, c.want)
		}
		for k, x := range fractions(c.times) {
			if p, ok := movingregion.At(l, x); !ok || !same(p, c.polygons[k]) {
				t.Errorf("%s is %s at %s", c.want, showPoly(p), rational.Print(x))
			}
			if k == 0 {
				continue
			}
			before := fractions(c.times)[k-1]
			middle := rational.Mul(rational.Add(before, x), rat("1/2"))
			p, ok := movingregion.At(l, middle)
			for n, v := range p.Outer {
				if v != plane.Divide(api.Segment{A: c.polygons[k-1].Outer[n], B: c.polygons[k].Outer[n]}, rat("1/2")) {
					t.Errorf("%s is %s, %v at %s", c.want, showPoly(p), ok, rational.Print(middle))
				}
			}
		}
	}
}

func TestP17_5Errors(t *testing.T) {
	a, b := "0:0 4:0 0:4", "0:0 9:0 0:9 | 1:1 2:1 1:2"
	form := poly(a)
	form.Outer[1].X = wrong()[2].P
	many := make([]string, 65)
	var times []api.Rat
	for k := range many {
		many[k] = a
		times = append(times, rational.FromInt(k))
	}
	for k, c := range []struct {
		times    []api.Rat
		polygons []api.Polygon
		e        api.Errno
	}{
		{nil, nil, api.ErrEmpty}, {nil, polys(a), api.ErrEmpty}, {fractions("0 2"), polys(a), api.ErrGap}, {fractions("0"), polys(a, a), api.ErrGap}, {fractions("0"), nil, api.ErrGap}, {times, polys(many...), api.ErrLimit}, {times, polys(many[:64]...), api.ErrGap}, {times[:64], polys(many[:64]...), api.OK}, {append(fractions("9"), times[1:]...), polys(many...), api.ErrLimit},
		{fractions("2 0"), polys(a, a), api.ErrOrder}, {fractions("0 1 1"), polys(a, a, a), api.ErrOrder}, {fractions("2 0"), polys("0:0 1:0", a), api.ErrOrder},
		{fractions("0 1"), polys(a, "0:0 4:0 2:0"), api.ErrShape}, {fractions("0 1"), polys("0:0 4:0 2:0", a), api.ErrShape}, {fractions("0"), polys("0:0 4:0 2:0"), api.ErrShape}, {fractions("0"), polys(""), api.ErrShape}, {fractions("0 1"), polys(b, "0:0 9:0 0:9 | 0:1 2:1 1:2"), api.ErrOverlap}, {fractions("0 1"), []api.Polygon{poly(a), form}, api.ErrForm}, {fractions("0 1"), polys("0:0 1:0 2:0 3:0 4:0 5:0 6:0 7:0 8:0 9:0 10:0 11:0 0:12", a), api.ErrLimit},
		{fractions("0 1"), polys(a, "0:0 4:0 4:4 0:4"), api.ErrForm}, {fractions("0 1"), polys(a, b), api.ErrForm}, {fractions("0 1"), polys(b, a), api.ErrForm}, {fractions("0 1"), polys(b, "0:0 9:0 0:9 | 1:1 2:1 2:2 1:2"), api.ErrForm}, {fractions("0 1"), polys(b, "0:0 9:0 0:9 | 1:1 2:1 1:2 | 3:1 4:1 3:2"), api.ErrForm}, {fractions("0 1 2"), polys(a, "0:0 4:0 4:4 0:4", "0:0 4:0 2:0"), api.ErrForm}, {fractions("0 1 2"), polys(a, "0:0 4:0 2:0", "0:0 4:0 4:4 0:4"), api.ErrShape}, {fractions("0 1"), polys("0:0 1:0 1:1 0:1 | 5:5 6:5 5:6", "0:0 1:0 0:1"), api.ErrOverlap},
		{fractions("0 1"), polys(a, "0:0 4:0 0:-4"), api.ErrShape}, {fractions("0 1 2"), polys(a, "0:0 4:0 4:4", "0:0 4:0 0:-4"), api.ErrShape}, {fractions("0 1"), polys("0:0 9:0 9:9 0:9 | 1:1 2:1 1:2 | 5:1 6:1 5:2", "0:0 9:0 9:9 0:9 | 5:1 6:1 5:2 | 1:1 2:1 1:2"), api.ErrShape}, {fractions("0 1"), polys("0:0 9:0 9:9 0:9 | 1:1 2:1 1:2 | 5:1 6:1 5:2", "0:0 9:0 9:9 0:9 | 1:5 2:5 1:6 | 5:1 6:1 5:2"), api.OK},
	} {
		l, e := movingregion.Snapshots(c.times, c.polygons)
		if e != c.e || e != api.OK && len(l) != 0 {
			t.Errorf("%d: Snapshots = %s, %d; want %d", k, showUnits(l), e, c.e)
		}
	}
}

func TestP17_6(t *testing.T) {
	pairs(func(a, b []api.RegionUnit) {
		during := movingregion.Domain(b)
		l := movingregion.Restrict(a, during)
		if !is(l, instants(a, b), func(x api.Real) string {
			if _, wanted := at(b, x); !wanted {
				return ""
			}
			return positions(a, x)
		}) {
			t.Errorf("Restrict(%s; %s) = %s", showUnits(a), show(during), showUnits(l))
		}
	})
	for _, c := range [][3]string{{"[0 2] 0:0 4:0 0,2:4", "[1 1], (3/2 5]", "[1 1] 0:0 4:0 2:4; (3/2 2] 0:0 4:0 0,2:4"}, {"[0 2] 0:0 4:0 0,2:4", "[0+sqrt(2) 0+sqrt(2)]", "[0+sqrt(2) 0+sqrt(2)] 0:0 4:0 0,2:4"}} {
		if l := movingregion.Restrict(units(c[0]), list(c[1])); showUnits(l) != c[2] {
			t.Errorf("Restrict(%s; %s) = %s; want %s", c[0], c[1], showUnits(l), c[2])
		}
	}
	each(func(l []api.RegionUnit) {
		for _, s := range []string{"0", "5", "-1/3", "100000000000000000000/7"} {
			by, back := rat(s), rational.Neg(rat(s))
			later := movingregion.Shift(l, by)
			if !is(later, instants(later), func(x api.Real) string { return positions(l, real.Shift(x, back)) }) {
				t.Errorf("Shift(%s; %s) = %s", showUnits(l), s, showUnits(later))
			}
			if got := movingregion.Shift(later, back); !movingregion.Equal(got, l) {
				t.Errorf("Shift(%s; %s) and back = %s", showUnits(l), s, showUnits(got))
			}
		}
	})
}

func TestP17_7Area2(t *testing.T) {
	each(func(l []api.RegionUnit) {
		area := movingregion.Area2(l)
		if e := movingnumber.Check(area); e != api.OK {
			t.Errorf("Area2(%s) = %v is no moving number: %d", showUnits(l), area, e)
		}
		for _, x := range instants(l) {
			u, defined := at(l, x)
			got, ok := movingnumber.At(area, x)
			if ok != defined || ok && got != area2(shapeOf(u), x) {
				t.Errorf("Area2(%s) at %s is %s, %v", showUnits(l), real.Print(x), real.Print(got), ok)
			}
			if r, isRat := real.Rational(x); ok && isRat && got != real.FromRat(polygon.Area2(polygonOf(shapeOf(u), r))) {
				t.Errorf("Area2(%s) at %s is %s", showUnits(l), real.Print(x), real.Print(got))
			}
		}
	})
	for s, want := range map[string]api.Quad{"[0 2] 0:0 4:0 0,2:4": {C0: rat("16")}, "[0 2] 0,2:4 4:0 0:0": {C0: rat("16")}, "[0 2] 0:0 1,1:0 1,1:1,1 0:1,1": {C0: rat("2"), C1: rat("4"), C2: rat("2")}, "[0 2] 0:0 0:9 9:0 | 1:1 2,1:1 1:2": {C0: rat("80"), C1: rat("-1")}, "[0 2] 0:0 0:9 9:0 | 1:1 1:2 2,1:1": {C0: rat("80"), C1: rat("-1")}, "[0+sqrt(2) 0+sqrt(2)] 0:0 1,1:0 1,1:1,1 0:1,1": {C0: rat("6"), C1: rat("4")}, "[0 1] 0:0 4:0 0:4; (1 2] 0:0 0:2 8:0": {C0: rat("16")}} {
		if area := movingregion.Area2(units(s)); len(area) != 1 || area[0].F != want {
			t.Errorf("Area2(%s) = %v; want %v", s, area, want)
		}
	}
}

// The area of a region that moves along with a point is constant.
func TestP17_8Area2(t *testing.T) {
	park := poly("0:0 9:0 0:9 | 1:1 2:1 1:2")
	for _, l := range [][]api.PointUnit{way("[0 3]", "0,1:0,1"), way("[0 2], (2 4], [5 5], [6+sqrt(2) 6+sqrt(2)]", "0,2:0 4:-6,3 1/2:7 0,1:3")} {
		if area := movingregion.Area2(movingregion.Rigid(park, l)); !movingnumber.Same(area, movingnumber.Constant(polygon.Area2(park), movingpoint.Domain(l))) {
			t.Errorf("the area along %v is %v", l, area)
		}
	}
}

func TestP17_7Box(t *testing.T) {
	box := func(sides ...int) api.Box {
		return api.Box{X0: sides[0], X1: sides[1], Y0: sides[2], Y1: sides[3], T0: sides[4], T1: sides[5]}
	}
	for s, want := range map[string]api.Box{
		"[0 2] 0:0 4:0 0,2:4": box(0, 4, 0, 4, 0, 2), "[0 2) 0:0 4:0 0,3:4": box(0, 6, 0, 4, 0, 2), "(0-sqrt(2) 0+sqrt(3)) 0,1:0 9:0,-1 9:9,1": box(-2, 9, -2, 11, -2, 2), "[5/2 5/2] 1/2:1/2 3/2:1/2 1:7/3": box(0, 2, 0, 3, 2, 3), "[0 1] 0:0 1:0 0:1; [5 6] -3:-4 -3:-5 -2:-4": box(-3, 1, -5, 1, 0, 6), "[0 1) 0:0 1099511627776:0 0:-1099511627776": box(0, 1<<40, -1<<40, 0, 0, 1), "[3 4] 5:6 7:6 6,1:8": box(5, 10, 6, 8, 3, 4), "[-1099511627776 1099511627776] 0:0 1:0 0:1": box(0, 1, 0, 1, -1<<40, 1<<40),
	} {
		if got, e := movingregion.Box(units(s)); e != api.OK || got != want {
			t.Errorf("Box(%s) = %v, %d; want %v", s, got, e, want)
		}
	}
	for s, want := range map[string]api.Errno{
		"": api.ErrEmpty, "[0 1] 0:0 1099511627777:0 0:1": api.ErrRange, "[0 1] 0:0 1:0 0:-10995116277761/10": api.ErrRange, "[0 1] 0:0 1:0 0:1; [2 1099511627777) 0:0 1:0 0:1": api.ErrRange, "[0 1) 0:0 1:0 0,1099511627777:1": api.ErrRange,
	} {
		if got, e := movingregion.Box(units(s)); e != want || got != (api.Box{}) {
			t.Errorf("Box(%s) = %v, %d; want %d", s, got, e, want)
		}
	}
	each(func(l []api.RegionUnit) {
		var all []api.PointUnit
		for _, u := range l {
			for _, v := range slices.Concat(allRings(shapeOf(u))...) {
				all = append(all, api.PointUnit{In: u.In, F: v})
			}
		}
		want, wantE := movingpoint.Box(all)
		if got, e := movingregion.Box(l); e != wantE || got != want {
			t.Errorf("Box(%s) = %v, %d; want %v, %d", showUnits(l), got, e, want, wantE)
		}
	})
}

func TestP17_7Equal(t *testing.T) {
	pairs(func(a, b []api.RegionUnit) {
		if movingregion.Equal(a, b) != (showUnits(a) == showUnits(b)) {
			t.Errorf("Equal(%s; %s)", showUnits(a), showUnits(b))
		}
	})
	one := "[0 1] 0:0 9:0 0:9 | 1:1 2:1 1:2"
	for _, s := range []string{"", "(0 1] 0:0 9:0 0:9 | 1:1 2:1 1:2", "[0 1) 0:0 9:0 0:9 | 1:1 2:1 1:2", "[0 2] 0:0 9:0 0:9 | 1:1 2:1 1:2", "[0 1] 0:0 9:0 0:9", "[0 1] 0:0 9:0 0:9 | 1:1 1:2 2:1", "[0 1] 9:0 0:9 0:0 | 1:1 2:1 1:2", "[0 1] 0:0 9:0 0:9 | 1:1 2:1 1:2,1", "[0 1] 0:0 9:0 0:9 | 1:1 2:1 1:2 | 3:3 4:3 3:4", "[0 1] 0:0 9:0 9:9 0:9 | 1:1 2:1 1:2", one + "; [2 2] 0:0 1:0 0:1"} {
		if movingregion.Equal(units(one), units(s)) || movingregion.Equal(units(s), units(one)) {
			t.Errorf("Equal of %s and %s", one, s)
		}
	}
	empty := []api.RegionUnit{{In: in("[0 1]"), Outer: shape("0:0 9:0 0:9").Outer, Holes: [][]api.Line{}}}
	if !movingregion.Equal(nil, []api.RegionUnit{}) || !movingregion.Equal(empty, units("[0 1] 0:0 9:0 0:9")) {
		t.Error("nil and empty lists are not equal")
	}
}

// wipe overwrites all memory of a list.
func wipe(l []api.RegionUnit) {
	for _, u := range l {
		for _, ring := range allRings(shapeOf(u)) {
			clear(ring[:cap(ring)])
		}
		clear(u.Holes[:cap(u.Holes)])
	}
	clear(l[:cap(l)])
}

// Arguments stay as they are, and results have memory of their own.
func TestP17_8Arguments(t *testing.T) {
	text := "[0 1) 0:0 9:0 0:9 | 1:1 2:1 1:2; (1 2] 0:0 9:0 0:9 | 1:1 2:1 1:2; [3 3] 0:0 1:0 0:1"
	a, park, during, path := units(text), poly("0:0 9:0 0:9 | 1:1 2:1 1:2"), list("[0 1/2], [2/3 1], [3 3]"), way("[0 1], (1 2]", "0,1:0,1 1:1")
	before := showUnits(a) + showPoly(park) + show(during)
	normal, _ := movingregion.Normal(a)
	snapshots, _ := movingregion.Snapshots(fractions("0 1"), []api.Polygon{park, park})
	one, _ := movingregion.Snapshots(fractions("0"), []api.Polygon{park})
	for _, l := range [][]api.RegionUnit{normal, snapshots, one, movingregion.Static(park, during), movingregion.Rigid(park, path), movingregion.Restrict(a, during), movingregion.Restrict(a, list("[-9 9]")), movingregion.Shift(a, rat("0"))} {
		wipe(l)
	}
	p, _ := movingregion.At(a, rat("0"))
	clear(p.Outer)
	clear(p.Holes[0])
	reduced := movingregion.Shapes{}.Reduce(shapeOf(a[0]), re("1"))
	wipe([]api.RegionUnit{{Outer: reduced.Outer, Holes: reduced.Holes}})
	clear(movingregion.Domain(a))
	clear(movingregion.Area2(a))
	movingregion.Box(a)
	movingregion.Check(a)
	movingregion.FirstBad(shapeOf(a[0]), a[0].In)
	if after := showUnits(a) + showPoly(park) + show(during); after != before {
		t.Errorf("the arguments are %s, not %s", after, before)
	}
	// No two units of a result share memory.
	for k, l := range [][]api.RegionUnit{movingregion.Restrict(a, during), movingregion.Static(park, during), movingregion.Rigid(park, path)} {
		shown := showUnits(l[1:])
		wipe(l[:1:1])
		if showUnits(l[1:]) != shown {
			t.Errorf("result %d shares memory", k)
		}
	}
}

// Nothing is specified for values that are not valid, but no function may panic or go on for ever.
func TestP1NotValid(t *testing.T) {
	ends := append(wrong(), reals("0 1 0+sqrt(2)")...)
	for k, x := range ends {
		for n, y := range ends {
			i := api.Interval{From: x, To: y, OpenFrom: k > n, OpenTo: k%2 == 0}
			v := api.Line{X0: x.P, X1: y.R, Y0: y.P, Y1: x.R}
			f := movingregion.Shape{Outer: append(shape("0:0 4:0 0:4").Outer, v), Holes: [][]api.Line{{v}, nil}}
			g := movingregion.Shape{Holes: [][]api.Line{{v, v, v}, shape("0:0 1:0 0:1").Outer}}
			p := api.Polygon{Outer: []api.Point{{X: x.P, Y: y.R}, {}, {X: y.P}}, Holes: [][]api.Point{nil, {{X: x.R}}}}
			for _, f := range []movingregion.Shape{f, g, {}, shape("0:0 4:0 0:4,-4")} {
				l := []api.RegionUnit{{In: i, Outer: f.Outer, Holes: f.Holes}, {In: api.Interval{From: y, To: y}, Outer: g.Outer, Holes: g.Holes}, {In: api.Interval{From: y, To: x}}}
				movingregion.Valid(f, x)
				movingregion.FirstBad(f, i)
				movingregion.Shapes{}.Same(f, g, x)
				movingregion.Shapes{}.Reduce(f, y)
				movingregion.Check(l)
				movingregion.Normal(l)
				movingregion.At(l, x.P)
				movingregion.Domain(l)
				movingregion.Restrict(l, []api.Interval{i, {From: x, To: x}, i})
				movingregion.Shift(l, y.P)
				movingregion.Area2(l)
				movingregion.Box(l)
				movingregion.Equal(l, l)
			}
			movingregion.Static(p, []api.Interval{i, i})
			movingregion.Rigid(p, []api.PointUnit{{In: i, F: v}, {In: i}})
			movingregion.Snapshots([]api.Rat{x.P, y.P}, []api.Polygon{p, p})
		}
	}
}
