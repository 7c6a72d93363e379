package movingpoint_test

import (
	"slices"
	"strings"

	"viator/api"
	"viator/movingpoint"
	"viator/notation"
	"viator/rational"
	"viator/real"
)

// The strings of the tests are those of package notation.
var (
	rat       = notation.Rat
	re        = notation.Real
	reals     = notation.Reals
	showReals = notation.ShowReals
	in        = notation.Interval
	list      = notation.Period
	show      = notation.ShowPeriod
	pair      = notation.Pair
	showPair  = notation.ShowPair
	wrong     = notation.Wrong
)

func point(s string) api.Point {
	x, y := pair(s)
	return api.Point{X: x, Y: y}
}

// units returns the units that a string like "[0 1) 0,1 5; [1 1] 5 -1/2" shows: of each one the interval and the functions of both coordinates.
func units(s string) []api.PointUnit {
	var l []api.PointUnit
	for _, part := range strings.Split(s, "; ") {
		if words := strings.Fields(part); len(words) == 4 {
			u := api.PointUnit{In: in(words[0] + " " + words[1])}
			u.F.X0, u.F.X1 = pair(words[2])
			u.F.Y0, u.F.Y1 = pair(words[3])
			l = append(l, u)
		}
	}
	return l
}

func showUnits(l []api.PointUnit) string {
	var parts []string
	for _, u := range l {
		parts = append(parts, notation.ShowInterval(u.In)+" "+showPair(u.F.X0, u.F.X1)+" "+showPair(u.F.Y0, u.F.Y1))
	}
	return strings.Join(parts, "; ")
}

// samples contains moving points in normal form.
func samples() []string {
	return []string{
		"", "[0 2] 0,2 0; (2 4] 4 -6,3", "[0 2) 0,2 0; (2 4] 4 -6,3", "[0 2) 0,2 0; [2 2] 4 1; (2 4] 4 -6,3", "[3 3] 1 2", "[0+sqrt(2) 0+sqrt(2)] 0,1 0,-2", "(0 1) 3 4; (1 2) 3 4", "[-1 0+sqrt(2)] 0,1 1; (0+sqrt(2) 2] 0,1 1,0; [3 4] 0,1/2 5", "[0 1-sqrt(1/2)) 0,1 0; [1-sqrt(1/2) 1] 1 1; (1 5/2] 0,1 1",
		"[-5 5] 0,1 0,1", "(-5 5) 7 -1/2", "[0 1] 0,1 0; (1 2] 1 0; (2 3] 3,-1 0", "[0 1] 0,1 0; (1 2] 0,1 -1,1; (2 3) 2 1; [3 3] 9 9", "[0 0] 1 1; [1 1] 0 0; [2 2] 1 1", "[1 1] 7 7; (1 2] 0,1 0,1", "[0 1) 0,1 0; [1 2] 5 5,1", "[0 1] 0,1 0; (1 2] 5 5,1", "[0 0+sqrt(3)) 0,1 0,1; [0+sqrt(3) 0+sqrt(3)] 1,1 0,1; (0+sqrt(3) 4] 3,-2 1", "[0 2] 3 4; (2 3] 1,1 4", "(0 1) 3 0,1; [1 1] 4 1; (1 3) 3 2,-1",
	}
}

// each calls a function with all samples, and pairs with all pairs of them.
func each(f func(l []api.PointUnit)) {
	for _, s := range samples() {
		l, e := movingpoint.Normal(units(s))
		if e != api.OK {
			panic(s)
		}
		f(l)
	}
}

func pairs(f func(a, b []api.PointUnit)) {
	each(func(a []api.PointUnit) {
		each(func(b []api.PointUnit) { f(a, b) })
	})
}

// value returns c0 + c1 * t, computed without the packages above real.
func value(c0, c1 api.Rat, t api.Real) api.Real {
	p := rational.Add(c0, rational.Mul(c1, t.P))
	q := c1
	if t.Neg {
		q = rational.Neg(q)
	}
	x, e := real.Make(p, q, t.R)
	if e != api.OK {
		panic(e)
	}
	return x
}

func position(f api.Line, t api.Real) api.RealPoint {
	return api.RealPoint{X: value(f.X0, f.X1, t), Y: value(f.Y0, f.Y1, t)}
}

func contains(i api.Interval, t api.Real) bool {
	from, to := real.Compare(i.From, t), real.Compare(t, i.To)
	return (from < 0 || from == 0 && !i.OpenFrom) && (to < 0 || to == 0 && !i.OpenTo)
}

// at returns the unit of a moving point to which an instant belongs.
func at(l []api.PointUnit, t api.Real) (api.PointUnit, bool) {
	for _, u := range l {
		if contains(u.In, t) {
			return u, true
		}
	}
	return api.PointUnit{}, false
}

// positionAt returns the position of a moving point at an instant.
func positionAt(l []api.PointUnit, t api.Real) (api.RealPoint, bool) {
	u, ok := at(l, t)
	if !ok {
		return api.RealPoint{}, false
	}
	return position(u.F, t), true
}

// instants returns the ends of the units of moving points, some instants beside, and one between each two neighbouring ones, in order.
func instants(lists ...[]api.PointUnit) []api.Real {
	special := reals("-10 -1/3 2-sqrt(1/5) 7/5 0+sqrt(5) 10")
	for _, l := range lists {
		for _, u := range l {
			special = append(special, u.In.From, u.In.To)
		}
	}
	slices.SortFunc(special, real.Compare)
	special = slices.Compact(special)
	var all []api.Real
	for k, t := range special {
		if k > 0 {
			between, _ := real.Between(special[k-1], t)
			all = append(all, real.FromRat(between))
		}
		all = append(all, t)
	}
	return all
}

// is tells whether a moving point is in normal form and has, at each of some instants, the position that a function tells, which returns false if there is none.
func is(l []api.PointUnit, instants []api.Real, want func(t api.Real) (api.RealPoint, bool)) bool {
	for _, t := range instants {
		p, defined := positionAt(l, t)
		if q, ok := want(t); defined != ok || ok && p != q {
			return false
		}
	}
	return movingpoint.Check(l) == api.OK
}
