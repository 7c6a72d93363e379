package movingnumber_test

import (
	"slices"
	"strings"

	"viator/api"
	"viator/movingnumber"
	"viator/notation"
	"viator/rational"
	"viator/real"
)

// The strings of the tests are those of package notation.
var (
	rat   = notation.Rat
	re    = notation.Real
	reals = notation.Reals
	in    = notation.Interval
	list  = notation.Period
	show  = notation.ShowPeriod
	quad  = notation.Quad
	wrong = notation.Wrong
)

// units returns the units that a string like "[0 1) 0,1; [1 1] 5" shows.
func units(s string) []api.NumberUnit {
	var l []api.NumberUnit
	for _, part := range strings.Split(s, "; ") {
		if words := strings.Fields(part); len(words) == 3 {
			l = append(l, api.NumberUnit{In: in(words[0] + " " + words[1]), F: quad(words[2])})
		}
	}
	return l
}

func showUnits(l []api.NumberUnit) string {
	var parts []string
	for _, u := range l {
		parts = append(parts, notation.ShowInterval(u.In)+" "+notation.ShowQuad(u.F))
	}
	return strings.Join(parts, "; ")
}

// number is p + q*s, where s is the root of the R of an instant (with a minus, if Neg is set). Sums and products of the values at an instant are such numbers; they are computed without the packages above real.
type number struct{ p, q, r api.Rat }

func plus(a, b api.Rat) api.Rat  { return rational.Add(a, b) }
func times(a, b api.Rat) api.Rat { return rational.Mul(a, b) }

func (a number) plus(b number) number { return number{plus(a.p, b.p), plus(a.q, b.q), a.r} }

func (a number) times(b number) number {
	return number{plus(times(a.p, b.p), times(times(a.q, b.q), a.r)), plus(times(a.p, b.q), times(a.q, b.p)), a.r}
}

func (a number) scale(by api.Rat) number { return number{times(a.p, by), times(a.q, by), a.r} }

func (a number) real() api.Real {
	x, e := real.Make(a.p, a.q, a.r)
	if e != api.OK {
		panic(e)
	}
	return x
}

// valueOf returns the value of a function at an instant.
func valueOf(f api.Quad, t api.Real) number {
	sign := rat("1")
	if t.Neg {
		sign = rat("-1")
	}
	at := number{t.P, sign, t.R}
	return at.times(at).scale(f.C2).plus(at.scale(f.C1)).plus(number{p: f.C0, r: t.R})
}

func contains(i api.Interval, t api.Real) bool {
	from, to := real.Compare(i.From, t), real.Compare(t, i.To)
	return (from < 0 || from == 0 && !i.OpenFrom) && (to < 0 || to == 0 && !i.OpenTo)
}

// at returns the value of a moving number at an instant, and whether it is defined there.
func at(l []api.NumberUnit, t api.Real) (number, bool) {
	for _, u := range l {
		if contains(u.In, t) {
			return valueOf(u.F, t), true
		}
	}
	return number{}, false
}

// samples contains moving numbers in normal form.
func samples() []string {
	return []string{
		"", "[0 4] -2,0,1", "[0 2) 0,1", "[0 2] 0,1", "[1 3] 1,-1", "(0 1) 3; (1 2) 3", "[0 1) 0,1; [1 1] 5; (1 2] 0,1", "[0+sqrt(2) 0+sqrt(2)] 2", "[1+sqrt(3) 1+sqrt(3)] 2,2; (3 5) 0,1/2,-1", "[-1 0+sqrt(2)] 0,0,1; (0+sqrt(2) 2] 2", "(0-sqrt(2) 1] 1; (1 0+sqrt(2)) 2,-1; [0+sqrt(2) 0+sqrt(2)] 0,1; (0+sqrt(2) 4] 7",
		"[0 0] 1; [1 1] -1; [2 2] 0; [3 3] 9", "[-1 4] 0", "[-1 4] 3", "[-1 4] 1/2,-1", "(-1 1/2] 0,0,2; (1/2 4) 1/2", "[0 5/2) 2,-3,1; (5/2 3] 4", "[0 0+sqrt(3)) 0,1; [0+sqrt(3) 0+sqrt(3)] 1,1; (0+sqrt(3) 4] 3,-2", "[1-sqrt(2) 1+sqrt(2)] -1,-2,1", "(1-sqrt(2) 1+sqrt(2)) -1,-2,1", "[1 3] 4,-4,1", "[0 3] 0,1,1/3; (3 4) 6", "[0 1) 1; (2 3] 1; [4 4] 1",
	}
}

// instants returns the instants at which the relations of moving numbers and of some constants can change, in order, and one between each two neighbouring ones.
func instants(constants []api.Rat, lists ...[]api.NumberUnit) []api.Real {
	special := reals("-10 10 1/3 0+sqrt(1/2) 2-sqrt(1/5)")
	functions := []api.Quad{{}}
	for _, c := range constants {
		functions = append(functions, api.Quad{C0: c})
	}
	for _, l := range lists {
		for _, u := range l {
			special = append(special, u.In.From, u.In.To)
			functions = append(functions, u.F)
		}
	}
	for k, f := range functions {
		for _, g := range functions[:k] {
			difference := api.Quad{C0: rational.Sub(f.C0, g.C0), C1: rational.Sub(f.C1, g.C1), C2: rational.Sub(f.C2, g.C2)}
			roots, _ := real.Roots(difference)
			special = append(special, roots...)
		}
	}
	slices.SortFunc(special, real.Compare)
	special = slices.Compact(special)
	var all []api.Real
	for k, t := range special {
		if k > 0 {
			between, _ := real.Between(special[k-1], t)
			all = append(all, real.FromRat(between))
		}
		all = append(all, t)
	}
	return all
}

// each calls a function with all samples, and pairs with all pairs of them.
func each(f func(l []api.NumberUnit)) {
	for _, s := range samples() {
		f(units(s))
	}
}

func pairs(f func(a, b []api.NumberUnit)) {
	each(func(a []api.NumberUnit) {
		each(func(b []api.NumberUnit) { f(a, b) })
	})
}

// is tells whether a moving number is in normal form and has, at each of some instants, the value that a function tells, which returns false if there is none.
func is(l []api.NumberUnit, instants []api.Real, want func(t api.Real) (number, bool)) bool {
	for _, t := range instants {
		value, defined := movingnumber.At(l, t)
		n, ok := want(t)
		if defined != ok || ok && value != n.real() || !ok && value != (api.Real{}) {
			return false
		}
	}
	return len(l) > api.MaxUnits || movingnumber.Check(l) == api.OK
}
