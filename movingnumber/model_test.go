package movingnumber_test

import (
	"viator/api"
	"viator/movingnumber"
	"viator/notation"
	"viator/rational"
	"viator/real"
	"viator/surd"
)

// The strings of the tests are those of package notation.
var (
	rat       = notation.Rat
	re        = notation.Real
	reals     = notation.Reals
	in        = notation.Interval
	list      = notation.Period
	show      = notation.ShowPeriod
	wrong     = notation.Wrong
	units     = notation.NumberUnits
	showUnits = notation.ShowNumberUnits
)

// The values that the tests expect are those of package surd.
type number = surd.Number

var (
	valueOf  = surd.Value
	contains = surd.Contains
)

// at returns the value of a moving number at an instant, and whether it is defined there.
func at(l []api.NumberUnit, t api.Real) (number, bool) {
	for _, u := range l {
		if contains(u.In, t) {
			return valueOf(u.F, t), true
		}
	}
	return number{}, false
}

// samples contains moving numbers in normal form.
func samples() []string {
	return []string{
		"", "[0 4] -2,0,1", "[0 2) 0,1", "[0 2] 0,1", "[1 3] 1,-1", "(0 1) 3; (1 2) 3", "[0 1) 0,1; [1 1] 5; (1 2] 0,1", "[0+sqrt(2) 0+sqrt(2)] 2", "[1+sqrt(3) 1+sqrt(3)] 2,2; (3 5) 0,1/2,-1", "[-1 0+sqrt(2)] 0,0,1; (0+sqrt(2) 2] 2", "(0-sqrt(2) 1] 1; (1 0+sqrt(2)) 2,-1; [0+sqrt(2) 0+sqrt(2)] 0,1; (0+sqrt(2) 4] 7",
		"[0 0] 1; [1 1] -1; [2 2] 0; [3 3] 9", "[-1 4] 0", "[-1 4] 3", "[-1 4] 1/2,-1", "(-1 1/2] 0,0,2; (1/2 4) 1/2", "[0 5/2) 2,-3,1; (5/2 3] 4", "[0 0+sqrt(3)) 0,1; [0+sqrt(3) 0+sqrt(3)] 1,1; (0+sqrt(3) 4] 3,-2", "[1-sqrt(2) 1+sqrt(2)] -1,-2,1", "(1-sqrt(2) 1+sqrt(2)) -1,-2,1", "[1 3] 4,-4,1", "[0 3] 0,1,1/3; (3 4) 6", "[0 1) 1; (2 3] 1; [4 4] 1",
	}
}

// instants returns the instants at which the relations of moving numbers and of some constants can change, in order, and one between each two neighbouring ones.
func instants(constants []api.Rat, lists ...[]api.NumberUnit) []api.Real {
	special := reals("-10 10 1/3 0+sqrt(1/2) 2-sqrt(1/5)")
	functions := []api.Quad{{}}
	for _, c := range constants {
		functions = append(functions, api.Quad{C0: c})
	}
	for _, l := range lists {
		for _, u := range l {
			special = append(special, u.In.From, u.In.To)
			functions = append(functions, u.F)
		}
	}
	for k, f := range functions {
		for _, g := range functions[:k] {
			difference := api.Quad{C0: rational.Sub(f.C0, g.C0), C1: rational.Sub(f.C1, g.C1), C2: rational.Sub(f.C2, g.C2)}
			roots, _ := real.Roots(difference)
			special = append(special, roots...)
		}
	}
	return surd.Instants(special)
}

// each calls a function with all samples, and pairs with all pairs of them.
func each(f func(l []api.NumberUnit)) {
	for _, s := range samples() {
		f(units(s))
	}
}

func pairs(f func(a, b []api.NumberUnit)) {
	each(func(a []api.NumberUnit) {
		each(func(b []api.NumberUnit) { f(a, b) })
	})
}

// is tells whether a moving number is in normal form and has, at each of some instants, the value that a function tells, which returns false if there is none.
func is(l []api.NumberUnit, instants []api.Real, want func(t api.Real) (number, bool)) bool {
	for _, t := range instants {
		value, defined := movingnumber.At(l, t)
		n, ok := want(t)
		if defined != ok || ok && value != n.Real() || !ok && value != (api.Real{}) {
			return false
		}
	}
	return len(l) > api.MaxUnits || movingnumber.Check(l) == api.OK
}
