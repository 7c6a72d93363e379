package movingnumber

import (
	"viator/api"
	"viator/quadratic"
	"viator/real"
)

// Extreme is a least or greatest value: the value, the earliest instant at which it is taken or approached, and whether it is taken.
type Extreme struct {
	Value, At api.Real
	Reached   bool
}

// Least and Greatest return the extreme values.
func Least(l []api.NumberUnit) (Extreme, api.Errno) {
	return extreme(l, quadratic.Least, func(order int) bool { return order < 0 })
}

func Greatest(l []api.NumberUnit) (Extreme, api.Errno) {
	return extreme(l, quadratic.Greatest, func(order int) bool { return order > 0 })
}

// extreme returns the best one of the extreme values that the units have, as better tells from how one compares with another.
func extreme(l []api.NumberUnit, ofUnit func(f api.Quad, in api.Interval) (quadratic.Extreme, api.Errno), better func(order int) bool) (Extreme, api.Errno) {
	if len(l) == 0 {
		return Extreme{}, api.ErrEmpty
	}
	var best Extreme
	for k, u := range l {
		next, _ := ofUnit(u.F, u.In)
		switch {
		case k == 0 || better(real.Compare(next.Value, best.Value)):
			best = Extreme(next)
		case next.Value == best.Value:
			best.Reached = best.Reached || next.Reached
		}
	}
	return best, api.OK
}
