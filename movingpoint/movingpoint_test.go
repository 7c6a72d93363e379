package movingpoint_test

import (
	"slices"
	"testing"

	"viator/api"
	"viator/movingpoint"
	"viator/period"
	"viator/plane"
	"viator/rational"
	"viator/real"
)

func TestP15_1Check(t *testing.T) {
	for s, want := range map[string]api.Errno{
		"": api.OK, "[0 2] 0,2 0; (2 4] 4 -6,3": api.OK, "[0 2) 0,2 0; (2 4] 4 -6,3": api.OK, "[0 2) 0,2 0; [2 4] 4 -6,3": api.ErrForm, "[0 2] 0,2 0; [2 4] 4 -6,3": api.ErrOrder, "[2 4] 4 -6,3; [0 1] 0 0": api.ErrOrder, "[2 1] 0 0": api.ErrEmpty, "(1 1] 0 0": api.ErrEmpty, "[1 1] 1 0": api.OK, "[1 1] 0,1 0": api.ErrForm, "[1 1] 0 0,1": api.ErrForm, "[0+sqrt(2) 0+sqrt(2)] 0,1 0,1": api.OK, "[0 1] 0,1 3; (1 2] 0,1 3": api.ErrForm, "[0 1] 0,1 3; (1 2] 0,1 2,1": api.OK, "[0 1) 0,1 3; [1 1] 1 3": api.ErrForm, "[0 1) 0,1 3; [1 1] 1 2": api.OK,
	} {
		if e := movingpoint.Check(units(s)); e != want {
			t.Errorf("Check(%s) = %d; want %d", s, e, want)
		}
	}
	each(func(l []api.PointUnit) {
		if e := movingpoint.Check(l); e != api.OK {
			t.Errorf("Check(%s) = %d", showUnits(l), e)
		}
	})
	bad := wrong()[2]
	for k, u := range []api.PointUnit{{In: in("[0 1]"), F: api.Line{X0: bad.P}}, {In: in("[0 1]"), F: api.Line{X1: bad.P}}, {In: in("[0 1]"), F: api.Line{Y0: bad.P}}, {In: in("[0 1]"), F: api.Line{Y1: bad.P}}, {In: api.Interval{From: bad, To: re("3")}}, {In: api.Interval{From: re("-3"), To: bad}}} {
		if e := movingpoint.Check([]api.PointUnit{u}); e != api.ErrForm {
			t.Errorf("%d: Check = %d", k, e)
		}
	}
	if e := movingpoint.Check(make([]api.PointUnit, api.MaxUnits+1)); e != api.ErrLimit {
		t.Errorf("Check of many = %d", e)
	}
}

func TestP15_1Normal(t *testing.T) {
	for s, want := range map[string]string{
		"": "", "(1 2] 0,1 3; [0 1] 0,1 3": "[0 2] 0,1 3", "[2 4] 4 -6,3; [0 2) 0,2 0": "[0 2] 0,2 0; (2 4] 4 -6,3", "[1 1] 0,1 2,3": "[1 1] 1 5", "[0 1) 0,1 0; [1 1] 1 0; (1 2] 0,1 0": "[0 2] 0,1 0", "[0 1) 0,1 0; [1 1] 1 1; (1 2] 0,1 0": "[0 1) 0,1 0; [1 1] 1 1; (1 2] 0,1 0", "[0+sqrt(2) 0+sqrt(2)] 0,1 0,1": "[0+sqrt(2) 0+sqrt(2)] 0,1 0,1",
	} {
		if l, e := movingpoint.Normal(units(s)); e != api.OK || showUnits(l) != want {
			t.Errorf("Normal(%s) = %s, %d; want %s", s, showUnits(l), e, want)
		}
	}
	for _, s := range []string{"[0 1] 0,1 0; [1 2] 0,1 0", "[0 9] 1 1; [3 3] 1 1", "(0 1) 1 1; (0 1) 1 1"} {
		if l, e := movingpoint.Normal(units(s)); e != api.ErrOverlap || len(l) != 0 {
			t.Errorf("Normal(%s) = %s, %d", s, showUnits(l), e)
		}
	}
	each(func(l []api.PointUnit) {
		turned := slices.Clone(l)
		slices.Reverse(turned)
		if normal, e := movingpoint.Normal(turned); e != api.OK || !movingpoint.Same(normal, l) {
			t.Errorf("Normal(%s) = %s, %d", showUnits(turned), showUnits(normal), e)
		}
	})
}

func TestP15_1Same(t *testing.T) {
	pairs(func(a, b []api.PointUnit) {
		if movingpoint.Same(a, b) != (showUnits(a) == showUnits(b)) {
			t.Errorf("Same(%s; %s)", showUnits(a), showUnits(b))
		}
	})
	for _, s := range []string{"(0 1] 0,1 5", "[0 1) 0,1 5", "[0 2] 0,1 5", "[1/2 1] 0,1 5", "[0 1] 1,1 5", "[0 1] 0,2 5", "[0 1] 0,1 6", "[0 1] 0,1 5,1", "[0 1] 0,1 5; [2 2] 2 2"} {
		if movingpoint.Same(units("[0 1] 0,1 5"), units(s)) {
			t.Errorf("Same of [0 1] 0,1 5 and %s", s)
		}
	}
	if !movingpoint.Same(nil, []api.PointUnit{}) {
		t.Error("nil and empty lists are not the same")
	}
}

// track returns the samples with the times and positions of strings like "0" and "4,1/2".
func track(words ...string) []movingpoint.Sample {
	var l []movingpoint.Sample
	for k := 0; k+1 < len(words); k += 2 {
		l = append(l, movingpoint.Sample{T: rat(words[k]), P: point(words[k+1])})
	}
	return l
}

func TestP15_2(t *testing.T) {
	for _, c := range []struct {
		l    []movingpoint.Sample
		want string
	}{
		{nil, ""}, {track("3", "1,2"), "[3 3] 1 2"}, {track("0", "0,0", "2", "4,0", "4", "4,6"), "[0 2] 0,2 0; (2 4] 4 -6,3"}, {track("0", "0,0", "1", "1,1", "2", "2,2"), "[0 2] 0,1 0,1"}, {track("-1/2", "1,0", "1/2", "1/3,0", "5/2", "1/3,0", "3", "1/3,0", "4", "0,7"), "[-1/2 1/2] 2/3,-2/3 0; (1/2 3] 1/3 0; (3 4] 4/3,-1/3 -21,7"}, {track("0", "5,5", "10", "5,5"), "[0 10] 5 5"},
	} {
		l, e := movingpoint.FromSamples(c.l)
		if e != api.OK || showUnits(l) != c.want || movingpoint.Check(l) != api.OK {
			t.Errorf("FromSamples(%v) = %s, %d; want %s", c.l, showUnits(l), e, c.want)
		}
	}
}

// At the times of samples their positions are those of the moving point, between them those of plane.Divide, and elsewhere there is none.
func TestP15_8Samples(t *testing.T) {
	l := track("-100000000000000000000", "0,0", "-7/3", "1/3,5", "-2", "1/3,5", "0", "-9,1", "1/7", "9,1", "2", "9/2,0", "3", "0,-5/3", "99", "0,-5/3")
	for n := range len(l) + 1 {
		some := l[:n]
		way, e := movingpoint.FromSamples(some)
		if e != api.OK || movingpoint.Check(way) != api.OK {
			t.Fatalf("FromSamples of %d = %s, %d", n, showUnits(way), e)
		}
		want := period.Closed(rat("1"), rat("0"))
		if n > 0 {
			want = period.Closed(some[0].T, some[n-1].T)
		}
		if got := movingpoint.Domain(way); !period.Equal(got, want) {
			t.Errorf("%d samples have the domain %s", n, show(got))
		}
		for k, s := range some {
			if p, ok := movingpoint.AtRat(way, s.T); !ok || p != s.P {
				t.Errorf("%d of %d samples: %v, %v", k, n, p, ok)
			}
			if k == 0 {
				continue
			}
			before := some[k-1]
			for _, part := range []string{"1/2", "1/3", "98/99"} {
				at := rational.Add(before.T, rational.Mul(rational.Sub(s.T, before.T), rat(part)))
				if p, ok := movingpoint.AtRat(way, at); !ok || p != plane.Divide(api.Segment{A: before.P, B: s.P}, rat(part)) {
					t.Errorf("before %d of %d samples: %v, %v", k, n, p, ok)
				}
			}
		}
	}
}

func TestP15_2Errors(t *testing.T) {
	bad := wrong()[2].P
	form := func(s movingpoint.Sample) []movingpoint.Sample { return append(track("0", "0,0", "1", "1,1"), s) }
	many := make([]movingpoint.Sample, api.MaxUnits)
	for k := range many {
		many[k] = movingpoint.Sample{T: rational.FromInt(k), P: plane.At(k*k, 0)}
	}
	limit := append(slices.Clone(many), movingpoint.Sample{T: bad})
	for k, c := range []struct {
		l []movingpoint.Sample
		e api.Errno
	}{
		{limit, api.ErrLimit}, {append(slices.Clone(many), track("999", "0,0")...), api.ErrLimit}, {form(movingpoint.Sample{T: bad}), api.ErrForm}, {form(movingpoint.Sample{T: rat("2"), P: api.Point{X: bad}}), api.ErrForm}, {form(movingpoint.Sample{T: rat("2"), P: api.Point{Y: bad}}), api.ErrForm}, {[]movingpoint.Sample{{T: bad}}, api.ErrForm}, {[]movingpoint.Sample{{P: api.Point{Y: bad}}}, api.ErrForm},
		{track("3", "1,2", "3", "1,2"), api.ErrOrder}, {track("0", "1,2", "3", "1,2", "2", "1,2"), api.ErrOrder}, {track("1", "1,2", "0", "1,2", "3", "1,2"), api.ErrOrder}, {append(track("1", "1,2", "0", "1,2"), movingpoint.Sample{P: api.Point{X: bad}}), api.ErrForm},
	} {
		if l, e := movingpoint.FromSamples(c.l); e != c.e || len(l) != 0 {
			t.Errorf("%d: FromSamples = %s, %d; want %d", k, showUnits(l), e, c.e)
		}
	}
	if l, e := movingpoint.FromSamples(many); e != api.OK || len(l) != api.MaxUnits-1 {
		t.Errorf("FromSamples of %d samples = %d units, %d", len(many), len(l), e)
	}
}

func TestP15_3(t *testing.T) {
	each(func(l []api.PointUnit) {
		for _, x := range instants(l) {
			want, defined := positionAt(l, x)
			if p, ok := movingpoint.At(l, x); ok != defined || p != want {
				t.Errorf("At(%s; %s) = %v, %v; want %v, %v", showUnits(l), real.Print(x), p, ok, want, defined)
			}
			if r, isRat := real.Rational(x); isRat {
				if p, ok := movingpoint.AtRat(l, r); ok != defined || p != (api.Point{X: want.X.P, Y: want.Y.P}) {
					t.Errorf("AtRat(%s; %s) = %v, %v; want %v, %v", showUnits(l), real.Print(x), p, ok, want, defined)
				}
			}
		}
		var intervals []api.Interval
		for _, u := range l {
			intervals = append(intervals, u.In)
		}
		if got := movingpoint.Domain(l); !slices.Equal(got, period.Normal(intervals)) {
			t.Errorf("Domain(%s) = %s", showUnits(l), show(got))
		}
	})
	if p, ok := movingpoint.At(units("[0 2] 0,2 1,-1"), re("0+sqrt(2)")); !ok || p != (api.RealPoint{X: re("0+sqrt(8)"), Y: re("1-sqrt(2)")}) {
		t.Errorf("At = %v, %v", p, ok)
	}
}

func TestP15_4(t *testing.T) {
	for _, c := range [][3]string{
		{"[0 2] 0,2 0; (2 4] 4 -6,3", "[1 1], [2 3)", "[1 1] 2 0; [2 3) 4 -6,3"}, {"[0 2] 0,2 0; (2 4] 4 -6,3", "[0 2), (2 9]", "[0 2) 0,2 0; (2 4] 4 -6,3"}, {"[0 2] 0,2 0", "[0+sqrt(2) 0+sqrt(2)]", "[0+sqrt(2) 0+sqrt(2)] 0,2 0"}, {"[0 2] 0,2 0", "", ""}, {"", "[0 2]", ""}, {"[0 2] 0,2 0", "(2 3]", ""},
	} {
		if l := movingpoint.Restrict(units(c[0]), list(c[1])); showUnits(l) != c[2] {
			t.Errorf("Restrict(%s; %s) = %s; want %s", c[0], c[1], showUnits(l), c[2])
		}
	}
	pairs(func(a, b []api.PointUnit) {
		during := movingpoint.Domain(b)
		l := movingpoint.Restrict(a, during)
		if !is(l, instants(a, b), func(x api.Real) (api.RealPoint, bool) {
			p, defined := positionAt(a, x)
			_, wanted := at(b, x)
			return p, defined && wanted
		}) {
			t.Errorf("Restrict(%s; %s) = %s", showUnits(a), show(during), showUnits(l))
		}
	})
}

func TestP15_4Moved(t *testing.T) {
	for _, c := range [][3]string{{"[0 2) 0,2 5,-1", "3", "[3 5) -6,2 8,-1"}, {"[1 1] 3 4; [0+sqrt(2) 0+sqrt(2)] 0,1 1", "-1/2", "[1/2 1/2] 3 4; [-1/2+sqrt(2) -1/2+sqrt(2)] 1/2,1 1"}, {"", "3", ""}} {
		if l := movingpoint.Shift(units(c[0]), rat(c[1])); showUnits(l) != c[2] {
			t.Errorf("Shift(%s; %s) = %s; want %s", c[0], c[1], showUnits(l), c[2])
		}
	}
	for _, c := range [][3]string{{"[0 2) 0,2 5,-1; [3 3] 1 1", "1,-1/2", "[0 2) 1,2 9/2,-1; [3 3] 2 1/2"}, {"", "1,1", ""}} {
		if l := movingpoint.Translate(units(c[0]), point(c[1])); showUnits(l) != c[2] {
			t.Errorf("Translate(%s; %s) = %s; want %s", c[0], c[1], showUnits(l), c[2])
		}
	}
	each(func(l []api.PointUnit) {
		for _, s := range []string{"0", "5", "-1/3", "100000000000000000000/7"} {
			by, back := rat(s), rational.Neg(rat(s))
			later := movingpoint.Shift(l, by)
			if !is(later, instants(later), func(x api.Real) (api.RealPoint, bool) { return positionAt(l, real.Shift(x, back)) }) {
				t.Errorf("Shift(%s; %s) = %s", showUnits(l), s, showUnits(later))
			}
			if got := movingpoint.Shift(later, back); !movingpoint.Same(got, l) {
				t.Errorf("Shift(%s; %s) and back = %s", showUnits(l), s, showUnits(got))
			}
		}
		for _, s := range []string{"0,0", "5,-1/3", "0,1"} {
			by := point(s)
			moved := movingpoint.Translate(l, by)
			if !is(moved, instants(l), func(x api.Real) (api.RealPoint, bool) {
				p, ok := positionAt(l, x)
				return api.RealPoint{X: real.Shift(p.X, by.X), Y: real.Shift(p.Y, by.Y)}, ok
			}) {
				t.Errorf("Translate(%s; %s) = %s", showUnits(l), s, showUnits(moved))
			}
			if got := movingpoint.Translate(moved, plane.Sub(api.Point{}, by)); !movingpoint.Same(got, l) {
				t.Errorf("Translate(%s; %s) and back = %s", showUnits(l), s, showUnits(got))
			}
		}
	})
}

// Restricting to a period and to the rest of the domain, and putting the units of both together, gives the moving point.
func TestP15_8Parts(t *testing.T) {
	pairs(func(a, b []api.PointUnit) {
		during := movingpoint.Domain(b)
		rest := period.Minus(movingpoint.Domain(a), during)
		parts := append(movingpoint.Restrict(a, rest), movingpoint.Restrict(a, during)...)
		if l, e := movingpoint.Normal(parts); e != api.OK || !movingpoint.Same(l, a) {
			t.Errorf("the parts of %s during %s and the rest are %s, %d", showUnits(a), show(during), showUnits(l), e)
		}
	})
}

// Arguments stay as they are, and results have memory of their own.
func TestP15_8Arguments(t *testing.T) {
	a, during := units("[0 1) 0,1 0; [1 1] 5 5; (1 2] 0,1 0; (2 3] 2 4,-2"), list("[0 1], [2 3]")
	samples := track("0", "0,0", "1", "1,1")
	before := showUnits(a) + show(during)
	normal, _ := movingpoint.Normal(a)
	way, _ := movingpoint.FromSamples(samples)
	for _, l := range [][]api.PointUnit{normal, way, movingpoint.Restrict(a, during), movingpoint.Restrict(a, list("[-9 9]")), movingpoint.Shift(a, rat("0")), movingpoint.Translate(a, point("0,0"))} {
		clear(l[:cap(l)])
	}
	for _, l := range [][]api.NumberUnit{movingpoint.X(a), movingpoint.Y(a), movingpoint.Speed2(a)} {
		clear(l[:cap(l)])
	}
	clear(movingpoint.Domain(a))
	clear(movingpoint.Passes(a, point("5,5")))
	movingpoint.Turns(a)
	movingpoint.Jumps(a)
	movingpoint.Box(a)
	if after := showUnits(a) + show(during); after != before || !slices.Equal(samples, track("0", "0,0", "1", "1,1")) {
		t.Errorf("the arguments are %s, not %s", after, before)
	}
}

// Nothing is specified for lists that are not valid, but no function may panic or go on for ever.
func TestP1NotValid(t *testing.T) {
	ends := append(wrong(), reals("0 1 0+sqrt(2)")...)
	for k, x := range ends {
		for n, y := range ends {
			i := api.Interval{From: x, To: y, OpenFrom: k > n, OpenTo: k%2 == 0}
			f := api.Line{X0: x.P, X1: y.R, Y0: y.P, Y1: x.R}
			for _, l := range [][]api.PointUnit{{{In: i, F: f}, {In: api.Interval{From: y, To: x}}, {In: i}}, {{In: api.Interval{From: y, To: y}, F: f}, {In: i, F: f}}} {
				movingpoint.Check(l)
				movingpoint.Normal(l)
				movingpoint.At(l, y)
				movingpoint.AtRat(l, x.P)
				movingpoint.Domain(l)
				movingpoint.Restrict(l, []api.Interval{i, {From: x, To: x}, i})
				movingpoint.Shift(l, y.P)
				movingpoint.Translate(l, api.Point{X: x.P, Y: y.R})
				movingpoint.X(l)
				movingpoint.Y(l)
				movingpoint.Speed2(l)
				movingpoint.Turns(l)
				movingpoint.Jumps(l)
				movingpoint.Box(l)
				movingpoint.Passes(l, api.Point{X: x.P, Y: y.R})
				movingpoint.Same(l, l)
			}
			movingpoint.FromSamples([]movingpoint.Sample{{T: x.P}, {T: y.P, P: api.Point{X: x.R}}})
		}
	}
}
