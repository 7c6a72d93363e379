package movingnumber

import (
	"viator/api"
	"viator/movingbool"
	"viator/period"
	"viator/pieces"
	"viator/quadratic"
)

// Add, Sub, Scale and Product are the lifted operations of arithmetic, and Derivative is the rate of change.
func Add(a, b []api.NumberUnit) []api.NumberUnit { return combine(a, b, quadratic.Add) }

func Sub(a, b []api.NumberUnit) []api.NumberUnit { return combine(a, b, quadratic.Sub) }

func combine(a, b []api.NumberUnit, operation func(f, g api.Quad) api.Quad) []api.NumberUnit {
	return numbers(pieces.Combine(pieces.Quads{}, units(a), units(b), operation))
}

func Scale(l []api.NumberUnit, by api.Rat) []api.NumberUnit {
	return apply(units(l), func(f api.Quad) api.Quad { return quadratic.Scale(f, by) })
}

// apply returns the moving number whose functions an operation makes from those of another one.
func apply(l []unit, operation func(f api.Quad) api.Quad) []api.NumberUnit {
	return numbers(pieces.Map(pieces.Quads{}, l, operation))
}

func Product(a, b []api.NumberUnit) ([]api.NumberUnit, api.Errno) {
	var list []unit
	for _, both := range pieces.Refine(units(a), units(b)) {
		f, g := both.F, both.G
		if isInstant(both.In) {
			f, g = quadratic.Reduce(f, both.In.From), quadratic.Reduce(g, both.In.From)
		}
		product, e := quadratic.Mul(f, g)
		if e != api.OK {
			return nil, e
		}
		list = append(list, unit{In: both.In, F: product})
	}
	normal, e := pieces.Normal(pieces.Quads{}, list)
	return numbers(normal), e
}

func isInstant(in api.Interval) bool { return in.From == in.To }

func Derivative(l []api.NumberUnit) []api.NumberUnit {
	var long []unit
	for _, u := range units(l) {
		if !isInstant(u.In) {
			long = append(long, u)
		}
	}
	return apply(long, quadratic.Derivative)
}

// Less, AtMost and Equal are the lifted comparisons, and When returns the period during which a value lies in a range.
func Less(a, b []api.NumberUnit) api.Bool {
	return compare(a, b, func(sign int) bool { return sign < 0 })
}

func AtMost(a, b []api.NumberUnit) api.Bool {
	return compare(a, b, func(sign int) bool { return sign <= 0 })
}

func Equal(a, b []api.NumberUnit) api.Bool {
	return compare(a, b, func(sign int) bool { return sign == 0 })
}

// compare returns when the difference of two moving numbers has a sign that is accepted.
func compare(a, b []api.NumberUnit, accepted func(sign int) bool) api.Bool {
	var domain, holds []api.Interval
	for _, both := range pieces.Refine(units(a), units(b)) {
		difference := quadratic.Sub(both.F, both.G)
		where, _ := quadratic.Where(difference, both.In, accepted(-1), accepted(0), accepted(1))
		domain, holds = append(domain, both.In), append(holds, where...)
	}
	result, _ := movingbool.Make(domain, holds)
	return result
}

func When(l []api.NumberUnit, low, high api.Rat) []api.Interval {
	domain := Domain(l)
	above := AtMost(Constant(low, domain), l)
	below := AtMost(l, Constant(high, domain))
	return period.Intersect(above.True, below.True)
}
