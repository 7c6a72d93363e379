package lifted_test

import (
	"testing"

	"viator/api"
	"viator/lifted"
	"viator/movingbool"
	"viator/movingnumber"
	"viator/movingpoint"
	"viator/period"
	"viator/rational"
)

func TestP18_2Within(t *testing.T) {
	for _, c := range [][5]string{
		{"[0 4] 0,1 0", "[0 4] 3 0", "1", "[2 4]", "[0 4]"}, {"[0 4] 0,1 0", "[0 4] 3 0", "0", "[3 3]", "[0 4]"}, {"[0 4] 0,1 0", "[0 4] 3 0", "-1", "", "[0 4]"}, {"[0 4] 0,1 0", "[0 4] 2 1", "2", "[2-sqrt(3) 2+sqrt(3)]", "[0 4]"}, {"[0 4] 0,1 0", "[0 4] 2 1", "1", "[2 2]", "[0 4]"}, {"[0 4] 0,1 0", "[0 4] 2 1", "1/2", "", "[0 4]"}, {"[0 4] 0,1 0", "[0 4] 2 1", "99", "[0 4]", "[0 4]"}, {"[0 2) 0,1 0; (2 4] 0,1 0", "[0 4] 2 1", "1", "", "[0 2), (2 4]"}, {"[0 2) 0,1 0; (2 4] 0,1 0", "[1 4] 2 1", "2", "[1 2), (2 2+sqrt(3)]", "[1 2), (2 4]"}, {"[0 1] 0,1 0; (1 2] 1 0", "[0 2] 0 0", "1", "[0 2]", "[0 2]"}, {"[0+sqrt(2) 0+sqrt(2)] 0,1 0", "[0 2] 0 0", "3/2", "[0+sqrt(2) 0+sqrt(2)]", "[0+sqrt(2) 0+sqrt(2)]"}, {"[0+sqrt(2) 0+sqrt(2)] 0,1 0", "[0 2] 0 0", "7/5", "", "[0+sqrt(2) 0+sqrt(2)]"}, {"[0 1] 0 0", "[2 3] 0 0", "1", "", ""}, {"", "[2 3] 0 0", "1", "", ""}, {"[0 1] 0,1 0; (1 2] 5 0; (2 3] 3,-1 0", "[0 9] 0 0", "1", "[0 1], (2 3]", "[0 3]"}, {"[0 9] 0,1 0", "[0 9] 1,1 0", "1", "[0 9]", "[0 9]"}, {"[0 9] 0,1 0", "[0 9] 1,1 0", "99/100", "", "[0 9]"}, {"[0 9] 0,1 0", "[0 9] 0,1 0", "0", "[0 9]", "[0 9]"}, {"[0 9] 0,1 0", "[0 9] 0,1 0", "-1/100", "", "[0 9]"},
	} {
		a, b := units(c[0]), units(c[1])
		for _, got := range []api.Bool{lifted.Within(a, b, rat(c[2])), lifted.Within(b, a, rat(c[2]))} {
			if show(got.True) != c[3] || show(got.Domain) != c[4] {
				t.Errorf("Within(%s; %s; %s) = %s; want %s of %s", c[0], c[1], c[2], showBool(got), c[3], c[4])
			}
		}
	}
	sometimes, never := 0, 0
	pairs(func(a, b []api.PointUnit) {
		for _, r := range radii() {
			limit := rational.Mul(rat(r), rat(r))
			excess := func(p, q spot) number { return distance2(p, q).Minus(number{P: limit}) }
			got := lifted.Within(a, b, rat(r))
			checkBool(t, "Within("+showUnits(a)+"; "+showUnits(b)+"; "+r+")", got, together(a, b, excess), func(m api.Real) (bool, bool) {
				value, defined := between(a, b, excess)(m)
				return defined && r != "-1" && value.Sign() <= 0, defined
			})
			if len(got.True) > 0 {
				sometimes++
			} else {
				never++
			}
		}
	})
	if sometimes < 500 || never < 500 {
		t.Errorf("%d pairs are near one another, %d are not", sometimes, never)
	}
}

func TestP18_2WithinOf(t *testing.T) {
	for _, c := range [][4]string{
		{"[0 4] 0,1 0", "2,1", "1", "[2 2]"}, {"[0 4] 0,1 0", "2,1", "2", "[2-sqrt(3) 2+sqrt(3)]"}, {"[0 4] 0,1 0", "2,1", "-1", ""}, {"[0 4] 0,1 0", "2,1", "0", ""}, {"[0 4] 0,1 0", "2,0", "0", "[2 2]"}, {"(0 4] 0,1 0", "0,0", "0", ""}, {"[0 3) 0,1 0; (3 4] 0,1 0", "3,0", "1", "[2 3), (3 4]"}, {"", "3,0", "1", ""},
	} {
		a := units(c[0])
		if got := lifted.WithinOf(a, point(c[1]), rat(c[2])); show(got.True) != c[3] || !period.Equal(got.Domain, movingpoint.Domain(a)) {
			t.Errorf("WithinOf(%s; %s; %s) = %s; want %s", c[0], c[1], c[2], showBool(got), c[3])
		}
	}
	each(func(a []api.PointUnit) {
		for _, s := range []string{"0,0", "2,1", "-7/3,1/2"} {
			for _, r := range radii() {
				if got, want := lifted.WithinOf(a, point(s), rat(r)), lifted.Within(a, rest(point(s)), rat(r)); !movingbool.Equal(got, want) {
					t.Errorf("WithinOf(%s; %s; %s) = %s; want %s", showUnits(a), s, r, showBool(got), showBool(want))
				}
			}
		}
	})
}

func TestP18_2Meets(t *testing.T) {
	for _, c := range [][4]string{
		{"[0 4] 0,1 0", "[0 4] 3 0", "[3 3]", "[0 4]"}, {"[0 4] 0,1 0", "[0 4] 3 0,1", "", "[0 4]"}, {"[0 4] 0,1 0", "[0 4] 0 0,1", "[0 0]", "[0 4]"}, {"[0 4] 0,1 0", "[1 9] 0,1 0", "[1 4]", "[1 4]"}, {"[0 3) 0,1 0; (3 4] 0,1 0", "[0 4] 3 0", "", "[0 3), (3 4]"}, {"[0 3) 0,1 0; [3 3] 7 7; (3 4] 0,1 0", "[2 4] 0,1 0", "[2 3), (3 4]", "[2 4]"}, {"[0+sqrt(2) 0+sqrt(2)] 0,1 0", "[0+sqrt(2) 3] 0,1 0", "[0+sqrt(2) 0+sqrt(2)]", "[0+sqrt(2) 0+sqrt(2)]"}, {"[0 1] 0 0", "[2 3] 0 0", "", ""}, {"[0 2] 0,1 0", "[0 2] 2,-1 0; (2 3] 2 0", "[1 1]", "[0 2]"},
	} {
		a, b := units(c[0]), units(c[1])
		for _, got := range []api.Bool{lifted.Meets(a, b), lifted.Meets(b, a)} {
			if show(got.True) != c[2] || show(got.Domain) != c[3] {
				t.Errorf("Meets(%s; %s) = %s; want %s of %s", c[0], c[1], showBool(got), c[2], c[3])
			}
		}
	}
	met := 0
	pairs(func(a, b []api.PointUnit) {
		inX := func(p, q spot) number { return p.X.Minus(q.X) }
		inY := func(p, q spot) number { return p.Y.Minus(q.Y) }
		got := lifted.Meets(a, b)
		checkBool(t, "Meets("+showUnits(a)+"; "+showUnits(b)+")", got, together(a, b, inX, inY), func(m api.Real) (bool, bool) {
			p, ok := positionAt(a, m)
			q, is := positionAt(b, m)
			return ok && is && p.Real() == q.Real(), ok && is
		})
		met += len(got.True)
	})
	if met < 100 {
		t.Errorf("%d meetings only", met)
	}
}

func TestP18_5(t *testing.T) {
	for _, c := range [][4]string{
		{"[0 4] 0,1 0", "[0 4] 3 0", "[0 3)", "[0 4]"}, {"[0 4] 0,1 0", "[0 4] 3 1", "[0 3)", "[0 4]"}, {"[0 4] 4,-1 0", "[0 4] 3 1", "[0 1)", "[0 4]"}, {"[0 4] 0,1 0", "[0 4] 0,1 5", "", "[0 4]"}, {"[0 4] 0 0", "[0 4] 0,1 0", "", "[0 4]"}, {"[0 4] 0 0", "[0 4] 9,-1 0", "[0 4]", "[0 4]"}, {"[0 4] 0 0", "[0 4] 5 0", "", "[0 4]"},
		// The instant at which two units meet belongs to one of them.
		{"[0 2] 0 0", "[0 1] 3,-1 0; (1 2] 1,1 0", "[0 1]", "[0 2]"}, {"[0 2] 0 0", "[0 1] 1,1 0; (1 2] 3,-1 0", "(1 2]", "[0 2]"}, {"[0 2] 0 0", "[0 1) 9,-1 0; [1 2] 1,1 0", "[0 1)", "[0 2]"},
		// At single instants it is not defined, also where units have one instant in common only.
		{"[0 1] 0,1 0", "[1 2] 9 0", "", ""}, {"[1 1] 0 0", "[0 2] 0,1 0", "", ""}, {"[0 1) 9,-1 0; [1 1] 3 3; (1 2] 9,-1 0", "[0 2] 0 0", "[0 1), (1 2]", "[0 1), (1 2]"}, {"[0 1) 9,-1 0; (1 2] 9,-1 0", "[0 2] 0 0", "[0 1), (1 2]", "[0 1), (1 2]"}, {"[0 1] 9,-1 0; [3 4] 0 0", "[1 3] 0 0", "", ""}, {"[0 1] 9,-1 0; [3 4] 0 0", "[1 7/2] 5,-1 0", "[3 7/2]", "[3 7/2]"}, {"[0+sqrt(2) 0+sqrt(3)] 0,1 0", "[0 4] 3 0", "[0+sqrt(2) 0+sqrt(3)]", "[0+sqrt(2) 0+sqrt(3)]"}, {"", "[0 4] 3 0", "", ""},
	} {
		a, b := units(c[0]), units(c[1])
		for _, got := range []api.Bool{lifted.Towards(a, b), lifted.Towards(b, a)} {
			if show(got.True) != c[2] || show(got.Domain) != c[3] {
				t.Errorf("Towards(%s; %s) = %s; want %s of %s", c[0], c[1], showBool(got), c[2], c[3])
			}
		}
	}
}

// The derivative of the squared distance is twice the product of the vectors of position and velocity.
func TestP18_5Pairs(t *testing.T) {
	approached := 0
	pairs(func(a, b []api.PointUnit) {
		long := func(a []api.PointUnit, m api.Real) (api.PointUnit, bool) {
			for _, u := range a {
				if contains(u.In, m) && u.In.From != u.In.To {
					return u, true
				}
			}
			return api.PointUnit{}, false
		}
		var critical []api.Real
		for _, u := range a {
			for _, v := range b {
				critical = append(critical, roots(func(m api.Real) number { return approach(u, v, m) })...)
			}
		}
		got := lifted.Towards(a, b)
		checkBool(t, "Towards("+showUnits(a)+"; "+showUnits(b)+")", got, instants(append(intervals(a), intervals(b)...), critical...), func(m api.Real) (bool, bool) {
			u, ok := long(a, m)
			v, is := long(b, m)
			common := period.Intersect([]api.Interval{u.In}, []api.Interval{v.In})
			if !ok || !is || common[0].From == common[0].To {
				return false, false
			}
			return approach(u, v, m).Sign() < 0, true
		})
		approached += len(got.True)
	})
	if approached < 100 {
		t.Errorf("%d times only", approached)
	}
}

// approach returns half the derivative of the squared distance of two units.
func approach(u, v api.PointUnit, m api.Real) number {
	speed := fixed(api.Point{X: rational.Sub(u.F.X1, v.F.X1), Y: rational.Sub(u.F.Y1, v.F.Y1)})
	return dot(position(u, m).Minus(position(v, m)), speed)
}

// Where a distance has a derivative, points approach one another if it is negative.
func TestP18_5Derivative(t *testing.T) {
	pairs(func(a, b []api.PointUnit) {
		rate := movingnumber.Derivative(lifted.Distance2(a, b))
		decreases := movingnumber.Less(rate, movingnumber.Constant(api.Rat{}, movingnumber.Domain(rate)))
		for _, u := range lifted.Distance2(a, b) {
			inner := api.Interval{From: u.In.From, To: u.In.To, OpenFrom: true, OpenTo: true}
			if u.In.From == u.In.To {
				continue
			}
			// Towards is not defined where a unit of one instant stands between two others that have the same distance.
			got := lifted.Towards(a, b)
			during := period.Intersect([]api.Interval{inner}, got.Domain)
			if x, y := movingbool.Restrict(got, during), movingbool.Restrict(decreases, during); !movingbool.Equal(x, y) {
				t.Errorf("Towards(%s; %s) = %s during %s; want %s", showUnits(a), showUnits(b), showBool(x), show(during), showBool(y))
			}
		}
	})
}
