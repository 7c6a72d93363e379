package lifted_test

import (
	"testing"

	"viator/api"
	"viator/lifted"
	"viator/movingnumber"
	"viator/movingpoint"
	"viator/period"
	"viator/plane"
	"viator/real"
)

// between returns the value that a function makes of two positions, where both are defined.
func between(a, b []api.PointUnit, value func(p, q spot) number) func(m api.Real) (number, bool) {
	return func(m api.Real) (number, bool) {
		p, ok := positionAt(a, m)
		q, is := positionAt(b, m)
		if !ok || !is {
			return number{}, false
		}
		return value(p, q), true
	}
}

func distance2(p, q spot) number { return square(p.Minus(q)) }

// rest returns a moving point that is at a point all the time that matters.
func rest(p api.Point) []api.PointUnit {
	return []api.PointUnit{{In: in("[-99 99]"), F: api.Line{X0: p.X, Y0: p.Y}}}
}

func TestP18_1Distance2(t *testing.T) {
	for _, c := range [][3]string{
		{"[0 4] 0,1 0", "[0 4] 3 0", "[0 4] 9,-6,1"}, {"[0 4] 0,1 0", "(1 9] 3 4", "(1 4] 25,-6,1"}, {"[0 1] 0,1 0; (1 2] 1 0", "[0 1] 0,1 3; (1 2] 1 3", "[0 2] 9"}, {"[0 2] 0,1 0,1", "[0+sqrt(2) 0+sqrt(2)] 0 0", "[0+sqrt(2) 0+sqrt(2)] 4"}, {"[0 1+sqrt(3)] 0,1 0", "[1+sqrt(3) 9] 0 0", "[1+sqrt(3) 1+sqrt(3)] 2,2"}, {"[0 1) 0 0", "[1 2] 0 0", ""}, {"", "[1 2] 0 0", ""}, {"[0 1) 3 0; [1 1] 0 0; (1 2] 0 -3", "[0 2] 0 0", "[0 1) 9; [1 1] 0; (1 2] 9"},
	} {
		a, b := units(c[0]), units(c[1])
		if got := lifted.Distance2(a, b); showNumbers(got) != c[2] {
			t.Errorf("Distance2(%s; %s) = %s; want %s", c[0], c[1], showNumbers(got), c[2])
		}
	}
	pairs(func(a, b []api.PointUnit) {
		name := "Distance2(" + showUnits(a) + "; " + showUnits(b) + ")"
		checkNumber(t, name, lifted.Distance2(a, b), together(a, b), between(a, b, distance2))
	})
}

func TestP18_1DistanceTo2(t *testing.T) {
	each(func(a []api.PointUnit) {
		for _, s := range []string{"0,0", "2,1", "-7/3,1/2"} {
			b := rest(point(s))
			checkNumber(t, "DistanceTo2("+showUnits(a)+"; "+s+")", lifted.DistanceTo2(a, point(s)), together(a, b), between(a, b, distance2))
		}
	})
	if got := lifted.DistanceTo2(units("[0 1] 0,1 0; (1 2] 2,-1 0"), point("1,0")); showNumbers(got) != "[0 2] 1,-2,1" {
		t.Errorf("DistanceTo2 = %s", showNumbers(got))
	}
}

func TestP18_1SegmentDistance2(t *testing.T) {
	for _, c := range [][3]string{
		{"[0 4] 0,1 0", "1,2 3,2", "[0 1] 5,-2,1; (1 3] 4; (3 4] 13,-6,1"}, {"[0 4] 0,1 0", "3,2 1,2", "[0 1] 5,-2,1; (1 3] 4; (3 4] 13,-6,1"}, {"[0 4] 0,1 0", "1,0 1,0", "[0 4] 1,-2,1"}, {"(1 3) 0,1 0", "1,2 3,2", "(1 3) 4"}, {"[0 1] 0,1 0", "1,2 3,2", "[0 1] 5,-2,1"}, {"[1 3] 2 0,1", "1,2 3,2", "[1 3] 4,-4,1"}, {"[0 2] 1 0,1", "1,2 3,2", "[0 2] 4,-4,1"}, {"[0 4] 2 0,1", "0,0 2,2", "[0 2] 2,-2,1/2; (2 4] 4,-4,1"}, {"[0 4] 0,1 0", "0,0 4,0", "[0 4] 0"}, {"[-1 4] 0,1 0", "0,0 3,0", "[-1 0] 0,0,1; (0 3] 0; (3 4] 9,-6,1"}, {"[0+sqrt(2) 0+sqrt(2)] 0,1 0", "0,1 1,1", "[0+sqrt(2) 0+sqrt(2)] 4,-2"}, {"[0 1) 0 0; [1 1] 9 0; (1 2] 0 0", "0,3 3,3", "[0 1) 9; [1 1] 45; (1 2] 9"}, {"", "0,3 3,3", ""},
	} {
		if got := lifted.SegmentDistance2(units(c[0]), segment(c[1])); showNumbers(got) != c[2] {
			t.Errorf("SegmentDistance2(%s; %s) = %s; want %s", c[0], c[1], showNumbers(got), c[2])
		}
	}
	for _, s := range segments() {
		from, to := segment(s).A, segment(s).B
		each(func(a []api.PointUnit) {
			b := rest(from)
			toSegment2 := func(p, q spot) number {
				way := vector(from, to)
				along, length2 := dot(way, p.Minus(q)), square(way)
				switch {
				case along.Sign() <= 0:
					return square(p.Minus(q))
				case along.Minus(length2).Sign() >= 0:
					return square(p.Minus(q).Minus(way))
				}
				// The height of a triangle is twice its area over its base.
				twice := cross(way, p.Minus(q))
				return twice.Times(twice).Scale(inverse(length2))
			}
			projects := func(p, q spot) number { return dot(vector(from, to), p.Minus(q)) }
			passes := func(p, q spot) number { return projects(p, q).Minus(square(vector(from, to))) }
			checkNumber(t, "SegmentDistance2("+showUnits(a)+"; "+s+")", lifted.SegmentDistance2(a, segment(s)), together(a, b, projects, passes), between(a, b, toSegment2))
		})
	}
}

// At rational instants, the distances are those of layer 7.
func TestP18_1Plane(t *testing.T) {
	asked := 0
	each(func(a []api.PointUnit) {
		for _, m := range instants(intervals(a)) {
			r, ok := real.Rational(m)
			p, defined := movingpoint.AtRat(a, r)
			if !ok || !defined {
				continue
			}
			for _, s := range segments() {
				got, _ := movingnumber.At(lifted.SegmentDistance2(a, segment(s)), m)
				if want := plane.PointSegment2(p, segment(s)); got != real.FromRat(want) {
					t.Errorf("SegmentDistance2(%s; %s) at %s is %s", showUnits(a), s, real.Print(m), real.Print(got))
				}
				got, _ = movingnumber.At(lifted.DistanceTo2(a, segment(s).A), m)
				if want := plane.Distance2(p, segment(s).A); got != real.FromRat(want) {
					t.Errorf("DistanceTo2(%s; %v) at %s is %s", showUnits(a), segment(s).A, real.Print(m), real.Print(got))
				}
				asked++
			}
		}
	})
	if asked < 500 {
		t.Errorf("%d distances only", asked)
	}
}

// Side by the words of the chapter.
func TestP18_4Side(t *testing.T) {
	for _, c := range [][3]string{
		{"[0 4] 0,1 0", "2,-1 2,1", "[0 2) 1; [2 2] 0; (2 4] -1"}, {"[0 4] 0,1 0", "2,1 2,-1", "[0 2) -1; [2 2] 0; (2 4] 1"}, {"[0 4] 0,1 0", "2,5 2,5", "[0 4] 0"}, {"[0 4] 0,1 0", "2,5 9,5", "[0 4] -1"}, {"[0 4] 0,1 0", "-1,0 9,0", "[0 4] 0"}, {"[0 2) 0,1 0; (2 4] 0,1 0", "2,-1 2,1", "[0 2) 1; (2 4] -1"}, {"[0 2] 0,1 0; (2 4] 4,-1 0", "2,-1 2,1", "[0 2) 1; [2 2] 0; (2 4] 1"}, {"[0 1] 0,1 0; (1 2] 1 0; (2 3] 3,-1 0", "1,-1 1,1", "[0 1) 1; [1 2] 0; (2 3] 1"}, {"[0+sqrt(2) 0+sqrt(2)] 0,1 0", "2,-1 2,1", "[0+sqrt(2) 0+sqrt(2)] 1"}, {"[2 4] 0,1 0", "2,-1 2,1", "[2 2] 0; (2 4] -1"}, {"", "2,-1 2,1", ""}, {"[0 2] 0,1 0; (2 4] 0,1 -2,1", "0,1 4,1", "[0 3) -1; [3 3] 0; (3 4] 1"},
	} {
		if got := lifted.Side(units(c[0]), segment(c[1])); showLabels(got) != c[2] {
			t.Errorf("Side(%s; %s) = %s; want %s", c[0], c[1], showLabels(got), c[2])
		}
	}
	for _, s := range segments() {
		from, to := segment(s).A, segment(s).B
		each(func(a []api.PointUnit) {
			b := rest(from)
			side := func(p, q spot) number { return cross(vector(from, to), p.Minus(q)) }
			checkLabel(t, "Side("+showUnits(a)+"; "+s+")", lifted.Side(a, segment(s)), together(a, b, side), func(m api.Real) (int, bool) {
				value, defined := between(a, b, side)(m)
				if !defined {
					return 0, false
				}
				return value.Sign(), true
			})
		})
	}
}

func TestP18_4On(t *testing.T) {
	for _, c := range [][3]string{
		{"[0 4] 0,1 0", "2,-1 2,1", "[2 2]"}, {"[0 4] 0,1 0", "2,1 2,3", ""}, {"[0 4] 0,1 0", "1,0 9,0", "[1 4]"}, {"[0 4] 0,1 0", "9,0 1,0", "[1 4]"}, {"[0 4] 0,1 0", "1,0 3,0", "[1 3]"}, {"[0 4] 0,1 0", "2,0 2,0", "[2 2]"}, {"[0 4] 0,1 0", "2,1 2,1", ""}, {"[0 4] 2 0", "2,0 2,0", "[0 4]"}, {"[0 4] 2 0", "0,0 4,0", "[0 4]"}, {"[0 4] 5 0", "0,0 4,0", ""}, {"[0 4] 0,1 0", "2,0 2,3", "[2 2]"}, {"[0 4] 0,1 0", "2,-3 2,0", "[2 2]"}, {"[0 2) 0,1 0; (2 4] 0,1 0", "2,-1 2,1", ""}, {"[0 2) 0,1 0; (2 4] 0,1 0", "1,0 3,0", "[1 2), (2 3]"}, {"[0+sqrt(2) 0+sqrt(2)] 0,1 0,1", "0,0 9,9", "[0+sqrt(2) 0+sqrt(2)]"}, {"[0+sqrt(2) 0+sqrt(2)] 0,1 0,1", "0,0 7/5,7/5", ""}, {"(1 3) 0,1 0", "1,0 1,1", ""}, {"", "1,0 1,1", ""},
	} {
		a := units(c[0])
		if got := lifted.On(a, segment(c[1])); show(got.True) != c[2] || !period.Equal(got.Domain, movingpoint.Domain(a)) {
			t.Errorf("On(%s; %s) = %s; want %s", c[0], c[1], showBool(got), c[2])
		}
	}
	sometime := 0
	for _, s := range segments() {
		from, to := segment(s).A, segment(s).B
		each(func(a []api.PointUnit) {
			b := rest(from)
			line := func(p, q spot) number { return cross(vector(from, to), p.Minus(q)) }
			fromEnd := func(p, q spot) number { return p.X.Minus(q.X) }
			behind := func(p, q spot) number { return p.Y.Minus(q.Y) }
			toEnd := func(p, q spot) number { return p.X.Minus(q.X).Minus(vector(from, to).X) }
			beyond := func(p, q spot) number { return p.Y.Minus(q.Y).Minus(vector(from, to).Y) }
			got := lifted.On(a, segment(s))
			checkBool(t, "On("+showUnits(a)+"; "+s+")", got, together(a, b, line, fromEnd, behind, toEnd, beyond), func(m api.Real) (bool, bool) {
				p, defined := positionAt(a, m)
				return defined && isBetween(p, fixed(from), fixed(to)), defined
			})
			if len(got.True) > 0 {
				sometime++
			}
		})
	}
	if sometime < 40 {
		t.Errorf("on the segment %d times only", sometime)
	}
}
