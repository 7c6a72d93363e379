package lifted_test

import (
	"slices"
	"strings"
	"testing"

	"viator/api"
	"viator/lists"
	"viator/movingbool"
	"viator/movinglabel"
	"viator/movingnumber"
	"viator/movingpoint"
	"viator/movingregion"
	"viator/notation"
	"viator/rational"
	"viator/real"
	"viator/surd"
)

// The strings of the tests are those of package notation.
var (
	rat         = notation.Rat
	reals       = notation.Reals
	in          = notation.Interval
	list        = notation.Period
	show        = notation.ShowPeriod
	point       = notation.Point
	poly        = notation.Polygon
	units       = notation.PointUnits
	showUnits   = notation.ShowPointUnits
	showNumbers = notation.ShowNumberUnits
	showLabels  = notation.ShowLabelUnits
	zone        = notation.RegionUnits
	showZone    = notation.ShowRegionUnits
	wrong       = notation.Wrong
)

// The positions that the tests expect are those of package surd.
type (
	number = surd.Number
	spot   = surd.Spot
)

// segment returns the segment of a string like "0,1 4,-1/2".
func segment(s string) api.Segment {
	from, to, _ := strings.Cut(s, " ")
	return api.Segment{A: point(from), B: point(to)}
}

// showBool returns when a moving Boolean is true, and when it is defined.
func showBool(b api.Bool) string { return show(b.True) + " of " + show(b.Domain) }

// ways contains moving points.
func ways() []string {
	return []string{
		"", "[0 4] 0,1 0", "[0 2] 0,2 0; (2 4] 4 -6,3", "[0 2) 0,2 0; (2 4] 4 -6,3", "[0 2) 0,2 0; [2 2] 4 1; (2 4] 4 -6,3", "[3 3] 1 2", "[0+sqrt(2) 0+sqrt(2)] 0,1 0,-2", "(0 1) 3 4; (1 2) 3 4", "[-1 0+sqrt(2)] 0,1 1; (0+sqrt(2) 2] 0,1 1,0; [3 4] 0,1/2 5", "[0 1-sqrt(1/2)) 0,1 0; [1-sqrt(1/2) 1] 1 1; (1 5/2] 0,1 1",
		"[-5 5] 0,1 0,1", "(-5 5) 7 -1/2", "[0 1] 0,1 0; (1 2] 1 0; (2 3] 3,-1 0", "[0 1] 0,1 0; (1 2] 0,1 -1,1; (2 3) 2 1; [3 3] 9 9", "[0 0] 1 1; [1 1] 0 0; [2 2] 1 1", "[1 1] 7 7; (1 2] 0,1 0,1", "[0 1) 0,1 0; [1 2] 5 5,1", "[0 0+sqrt(3)) 0,1 0,1; [0+sqrt(3) 0+sqrt(3)] 1,1 0,1; (0+sqrt(3) 4] 3,-2 1", "(0 1) 3 0,1; [1 1] 4 1; (1 3) 3 2,-1",
		"[0 4] 3 0", "[-2 5] 1,1/2 4,-2", "(0 3] 1 -2,1; (3 4) 1 1", "[0 9/2) 4,-1 0,2/3", "[0 4] 2 2,-1", "[0 4] 4,-1 0", "[-2 0] 1,1 0; (0 2] 1,2 0,2; (2 5] 5 4", "[0 1] 2 1; (1 3] 1,1 0,1; (3 5] 4 9,-2", "[-3 3] 0 0", "[1 2) 0,1 0,1; (2 3] 4,-1 -2,2",
	}
}

// zones contains moving regions in normal form: those that rest, move along, grow and turn, with and without holes.
func zones() []string {
	return []string{
		"", "[0 4] 1:-1 3:-1 3:1 1:1", "[0 4] 0,1:-1 2,1:-1 2,1:1 0,1:1", "[0 2] 0:0 4:0 0,2:4", "[0 1) 0:0 4:0 0:4,-4; (1 2] 0:0 4:0 0:4,-4", "[3 3] 0:0 1:0 0:1", "[0+sqrt(2) 0+sqrt(2)] 0:0 1,1:0 0:1,1", "(-5 5) 0,1:0,-1 1,1:0,-1 1,1:1,-1 0,1:1,-1", "[0 3] -9:-9 9:-9 9:9 -9:9 | 1,1:0 2,1:0 1,1:2", "[0 1] 0:0 4:0 0:4; (1 0+sqrt(3)] 0:0 3,1:0 0:3,1; [5 6) -1/2:0,1 0:-3,1 1/3:0,1",
		"[-4 4] -1:-1 5:-1 5:5 -1:5 | 0:0 0:1 2:1 2:0 | 3:1 3:4 4:4 4:1", "[0 4] 0:0 2:1 4:0 4:4 2:2,1/4 0:4", "[-2 2) 0:0 6:0 6:3 4:1 2:3 0:1; [2 2] -9:-9 9:-9 0:9; (2 4] 0,1:0 6,1:0 6,1:3 4,1:1 2,1:3 0,1:1", "[-3 5] -1,-1/4:-1,-1/4 1,1/4:-1,-1/4 1,1/4:1,1/4 -1,-1/4:1,1/4", "[0 5/2] 2,1:0,2 0,-2:2,1 -2,-1:0,-2 0,2:-2,-1", "[0 4] -2:-2 6:-2 6:4 -2:4 | 0,1:-1 1,1:-1 1,1:1 0,1:1",
	}
}

func segments() []string {
	return []string{"1,2 3,2", "0,0 4,0", "3,1 1,-1", "2,0 2,0", "2,3 2,-3", "-1,5 7/2,-1", "4,0 1,0", "1,1 1,1", "-9,-9 9,9", "0,0 1,1/3"}
}

func polygons() []string {
	return []string{"1:-1 3:-1 3:1 1:1", "0:0 4:0 0:4", "0:0 0:4 4:0", "-1:-1 5:-1 5:5 -1:5 | 0:0 0:1 2:1 2:0 | 3:1 3:4 4:4 4:1", "0:0 1:2 2:0 3:2 4:0 3:4 2:1 1:4", "2:0 3:0 3:1 4:1 4:0 5:0 5:2 2:2"}
}

func radii() []string { return []string{"0", "1", "2", "3/2", "-1", "5", "7/5"} }

// each calls a function with the normal forms of all ways, and pairs with all pairs of them.
func each(f func(a []api.PointUnit)) {
	for _, s := range ways() {
		a, e := movingpoint.Normal(units(s))
		if e != api.OK {
			panic(s)
		}
		f(a)
	}
}

func pairs(f func(a, b []api.PointUnit)) {
	each(func(a []api.PointUnit) {
		each(func(b []api.PointUnit) { f(a, b) })
	})
}

// visits calls a function with all pairs of a way and a zone.
func visits(f func(a []api.PointUnit, z []api.RegionUnit)) {
	for _, s := range zones() {
		z := zone(s)
		if movingregion.Check(z) != api.OK {
			panic(s)
		}
		each(func(a []api.PointUnit) { f(a, z) })
	}
}

func position(u api.PointUnit, t api.Real) spot { return surd.Position(u.F, t) }

// positionAt returns the position of a moving point at an instant, and ringsAt the rings of a region.
func positionAt(a []api.PointUnit, t api.Real) (spot, bool) {
	for _, u := range a {
		if contains(u.In, t) {
			return position(u, t), true
		}
	}
	return spot{}, false
}

func ringsAt(z []api.RegionUnit, t api.Real) ([][]spot, bool) {
	for _, u := range z {
		if contains(u.In, t) {
			return lists.Convert(rings(u), func(ring []api.Line) []spot {
				return lists.Convert(ring, func(v api.Line) spot { return surd.Position(v, t) })
			}), true
		}
	}
	return nil, false
}

func rings(u api.RegionUnit) [][]api.Line { return append([][]api.Line{u.Outer}, u.Holes...) }

// ringsOf returns the rings of a polygon.
func ringsOf(p api.Polygon) [][]spot {
	return lists.Convert(append([][]api.Point{p.Outer}, p.Holes...), func(ring []api.Point) []spot {
		return lists.Convert(ring, surd.Fixed)
	})
}

var (
	fixed = surd.Fixed
	dot   = surd.Dot
	cross = surd.Cross

	contains = surd.Contains
)

// square returns the square of the length of a vector, and vector the vector between two points.
func square(v spot) number { return dot(v, v) }

func vector(from, to api.Point) spot { return fixed(to).Minus(fixed(from)) }

// inverse returns the reciprocal of a number that is a fraction.
func inverse(n number) api.Rat {
	r, e := rational.Div(rat("1"), n.P)
	if e != api.OK {
		panic(e)
	}
	return r
}

// isBetween tells whether a position is on the segment between two others: on their line, and in their rectangle.
func isBetween(p, a, b spot) bool {
	x := p.X.Minus(a.X).Sign() * p.X.Minus(b.X).Sign()
	y := p.Y.Minus(a.Y).Sign() * p.Y.Minus(b.Y).Sign()
	return x <= 0 && y <= 0 && turn(a, b, p).Sign() == 0
}

func turn(a, b, p spot) number { return cross(b.Minus(a), p.Minus(a)) }

// isOnBorder and isInside tell where a position is, by the words of layer 8.
func isOnBorder(p spot, rings [][]spot) bool {
	for _, ring := range rings {
		for k, a := range ring {
			if isBetween(p, a, ring[(k+1)%len(ring)]) {
				return true
			}
		}
	}
	return false
}

func isInside(p spot, rings [][]spot) bool {
	isIn := func(ring []spot) bool { return surd.Within(p, ring) }
	return isOnBorder(p, rings) || isIn(rings[0]) && !slices.ContainsFunc(rings[1:], isIn)
}

// roots returns the instants at which a value is zero that is a function of time of a degree of at most 2: it is found from three values.
func roots(value func(t api.Real) number) []api.Real {
	at := func(n int) api.Rat { return value(real.FromInt(n)).Real().P }
	half := func(a, b api.Rat) api.Rat { return rational.Mul(rational.Add(a, b), rat("1/2")) }
	before, now, behind := at(-1), at(0), at(1)
	f := api.Quad{C0: now, C1: half(behind, rational.Neg(before)), C2: rational.Sub(half(behind, before), now)}
	zeros, _ := real.Roots(f)
	return zeros
}

// instants returns the ends of units, some instants beside, critical ones, and one between each two neighbouring ones, in order.
func instants(ends []api.Interval, critical ...api.Real) []api.Real {
	special := append(reals("-10 -1/3 7/5 0+sqrt(5) 10"), critical...)
	for _, i := range ends {
		special = append(special, i.From, i.To)
	}
	return surd.Instants(special)
}

func intervals(a []api.PointUnit) []api.Interval {
	return lists.Convert(a, func(u api.PointUnit) api.Interval { return u.In })
}

// together returns the instants at which relations of two moving points can change: where a value that is made from a unit of each is zero.
func together(a, b []api.PointUnit, values ...func(p, q spot) number) []api.Real {
	var critical []api.Real
	for _, u := range a {
		for _, v := range b {
			for _, value := range values {
				critical = append(critical, roots(func(t api.Real) number { return value(position(u, t), position(v, t)) })...)
			}
		}
	}
	return instants(append(intervals(a), intervals(b)...), critical...)
}

// passages returns the instants at which the place of a moving point in a moving region can change: where it passes the line of an edge, or a coordinate of a vertex.
func passages(a []api.PointUnit, z []api.RegionUnit) []api.Real {
	var critical []api.Real
	ends := intervals(a)
	for _, v := range z {
		ends = append(ends, v.In)
		for _, u := range a {
			for _, ring := range rings(v) {
				for k, from := range ring {
					at := func(f api.Line) func(t api.Real) spot {
						return func(t api.Real) spot { return surd.Position(f, t) }
					}
					p, c, d := at(u.F), at(from), at(ring[(k+1)%len(ring)])
					critical = append(critical, roots(func(t api.Real) number { return turn(c(t), d(t), p(t)) })...)
					critical = append(critical, roots(func(t api.Real) number { return p(t).X.Minus(c(t).X) })...)
					critical = append(critical, roots(func(t api.Real) number { return p(t).Y.Minus(c(t).Y) })...)
				}
			}
		}
	}
	return instants(ends, critical...)
}

// checkBool compares a moving Boolean with the values that a function tells.
func checkBool(t *testing.T, name string, got api.Bool, when []api.Real, want func(m api.Real) (value, defined bool)) {
	t.Helper()
	if e := movingbool.Check(got); e != api.OK {
		t.Errorf("%s = %s: %d", name, showBool(got), e)
	}
	for _, m := range append(movingbool.Changes(got), when...) {
		value, defined := movingbool.At(got, m)
		if wanted, is := want(m); defined != is || value != (wanted && is) {
			t.Fatalf("%s = %s: at %s it is %v, %v; want %v, %v", name, showBool(got), real.Print(m), value, defined, wanted, is)
		}
	}
}

// checkNumber compares a moving number with the values that a function tells.
func checkNumber(t *testing.T, name string, got []api.NumberUnit, when []api.Real, want func(m api.Real) (value number, defined bool)) {
	t.Helper()
	if e := movingnumber.Check(got); e != api.OK {
		t.Errorf("%s = %s: %d", name, showNumbers(got), e)
	}
	for _, u := range got {
		when = append(when, u.In.From, u.In.To)
	}
	for _, m := range when {
		value, defined := movingnumber.At(got, m)
		if wanted, is := want(m); defined != is || is && value != wanted.Real() {
			t.Fatalf("%s = %s: at %s it is %s, %v; want %v", name, showNumbers(got), real.Print(m), real.Print(value), defined, wanted)
		}
	}
}

// checkLabel compares a moving label with the labels that a function tells.
func checkLabel(t *testing.T, name string, got []api.LabelUnit, when []api.Real, want func(m api.Real) (label int, defined bool)) {
	t.Helper()
	if e := movinglabel.Check(got); e != api.OK {
		t.Errorf("%s = %s: %d", name, showLabels(got), e)
	}
	for _, u := range got {
		when = append(when, u.In.From, u.In.To)
	}
	for _, m := range when {
		label, defined := movinglabel.At(got, m)
		if wanted, is := want(m); defined != is || label != wanted {
			t.Fatalf("%s = %s: at %s it is %d, %v; want %d, %v", name, showLabels(got), real.Print(m), label, defined, wanted, is)
		}
	}
}
