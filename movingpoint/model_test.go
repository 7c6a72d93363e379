package movingpoint_test

import (
	"viator/api"
	"viator/movingpoint"
	"viator/notation"
	"viator/surd"
)

// The strings of the tests are those of package notation.
var (
	rat       = notation.Rat
	re        = notation.Real
	reals     = notation.Reals
	showReals = notation.ShowReals
	in        = notation.Interval
	list      = notation.Period
	show      = notation.ShowPeriod
	wrong     = notation.Wrong
	point     = notation.Point
	units     = notation.PointUnits
	showUnits = notation.ShowPointUnits
	contains  = surd.Contains
)

// samples contains moving points in normal form.
func samples() []string {
	return []string{
		"", "[0 2] 0,2 0; (2 4] 4 -6,3", "[0 2) 0,2 0; (2 4] 4 -6,3", "[0 2) 0,2 0; [2 2] 4 1; (2 4] 4 -6,3", "[3 3] 1 2", "[0+sqrt(2) 0+sqrt(2)] 0,1 0,-2", "(0 1) 3 4; (1 2) 3 4", "[-1 0+sqrt(2)] 0,1 1; (0+sqrt(2) 2] 0,1 1,0; [3 4] 0,1/2 5", "[0 1-sqrt(1/2)) 0,1 0; [1-sqrt(1/2) 1] 1 1; (1 5/2] 0,1 1",
		"[-5 5] 0,1 0,1", "(-5 5) 7 -1/2", "[0 1] 0,1 0; (1 2] 1 0; (2 3] 3,-1 0", "[0 1] 0,1 0; (1 2] 0,1 -1,1; (2 3) 2 1; [3 3] 9 9", "[0 0] 1 1; [1 1] 0 0; [2 2] 1 1", "[1 1] 7 7; (1 2] 0,1 0,1", "[0 1) 0,1 0; [1 2] 5 5,1", "[0 1] 0,1 0; (1 2] 5 5,1", "[0 0+sqrt(3)) 0,1 0,1; [0+sqrt(3) 0+sqrt(3)] 1,1 0,1; (0+sqrt(3) 4] 3,-2 1", "[0 2] 3 4; (2 3] 1,1 4", "(0 1) 3 0,1; [1 1] 4 1; (1 3) 3 2,-1",
	}
}

// each calls a function with all samples, and pairs with all pairs of them.
func each(f func(l []api.PointUnit)) {
	for _, s := range samples() {
		l, e := movingpoint.Normal(units(s))
		if e != api.OK {
			panic(s)
		}
		f(l)
	}
}

func pairs(f func(a, b []api.PointUnit)) {
	each(func(a []api.PointUnit) {
		each(func(b []api.PointUnit) { f(a, b) })
	})
}

func position(f api.Line, t api.Real) api.RealPoint { return surd.Position(f, t).Real() }

// at returns the unit of a moving point to which an instant belongs.
func at(l []api.PointUnit, t api.Real) (api.PointUnit, bool) {
	for _, u := range l {
		if contains(u.In, t) {
			return u, true
		}
	}
	return api.PointUnit{}, false
}

// positionAt returns the position of a moving point at an instant.
func positionAt(l []api.PointUnit, t api.Real) (api.RealPoint, bool) {
	u, ok := at(l, t)
	if !ok {
		return api.RealPoint{}, false
	}
	return position(u.F, t), true
}

// instants returns the ends of the units of moving points, some instants beside, and one between each two neighbouring ones, in order.
func instants(lists ...[]api.PointUnit) []api.Real {
	special := reals("-10 -1/3 2-sqrt(1/5) 7/5 0+sqrt(5) 10")
	for _, l := range lists {
		for _, u := range l {
			special = append(special, u.In.From, u.In.To)
		}
	}
	return surd.Instants(special)
}

// is tells whether a moving point is in normal form and has, at each of some instants, the position that a function tells, which returns false if there is none.
func is(l []api.PointUnit, instants []api.Real, want func(t api.Real) (api.RealPoint, bool)) bool {
	for _, t := range instants {
		p, defined := positionAt(l, t)
		if q, ok := want(t); defined != ok || ok && p != q {
			return false
		}
	}
	return movingpoint.Check(l) == api.OK
}
