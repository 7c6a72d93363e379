package quadratic

import (
	"viator/api"
	"viator/real"
)

// Extreme is a least or greatest value over the hull of an interval, the earliest instant of the hull that has it, and whether an instant of the interval itself has it.
type Extreme struct {
	Value, At api.Real
	Reached   bool
}

// Least and Greatest return the extreme values over an interval.
func Least(q api.Quad, in api.Interval) (Extreme, api.Errno) {
	return extreme(q, in, func(order int) bool { return order < 0 })
}

func Greatest(q api.Quad, in api.Interval) (Extreme, api.Errno) {
	return extreme(q, in, func(order int) bool { return order > 0 })
}

// extreme returns the value that is better than all others, as better tells from how it compares with another one.
func extreme(q api.Quad, in api.Interval, better func(order int) bool) (Extreme, api.Errno) {
	if e := checkInterval(in); e != api.OK {
		return Extreme{}, e
	}
	if Degree(q) < 1 { // reached between the ends, too
		return Extreme{Value: real.FromRat(q.C0), At: in.From, Reached: true}, api.OK
	}
	contains := within(in)
	best := Extreme{Value: At(q, in.From), At: in.From, Reached: contains(in.From)}
	for _, t := range turnAndEnd(q, in) {
		value := At(q, t)
		if better(real.Compare(value, best.Value)) {
			best = Extreme{Value: value, At: t}
		}
		best.Reached = best.Reached || value == best.Value && contains(t)
	}
	return best, api.OK
}

// turnAndEnd returns the instants of the hull, besides the beginning, at which a function can have an extreme value: where it turns, and the end.
func turnAndEnd(q api.Quad, in api.Interval) []api.Real {
	hull := api.Interval{From: in.From, To: in.To}
	return append(rootsWhere(Derivative(q), within(hull)), in.To)
}
