package movingpoint

import (
	"iter"
	"slices"

	"viator/api"
	"viator/integer"
	"viator/linear"
	"viator/lists"
	"viator/movingnumber"
	"viator/period"
	"viator/pieces"
	"viator/plane"
	"viator/quadratic"
	"viator/real"
)

// X and Y return the coordinates, and Speed2 the squared speed.
func X(l []api.PointUnit) []api.NumberUnit {
	return numbers(units(l), func(f api.Line) api.Quad {
		x, _ := linear.Coordinates(f)
		return x
	})
}

func Y(l []api.PointUnit) []api.NumberUnit {
	return numbers(units(l), func(f api.Line) api.Quad {
		_, y := linear.Coordinates(f)
		return y
	})
}

func Speed2(l []api.PointUnit) []api.NumberUnit {
	long := slices.DeleteFunc(units(l), func(u unit) bool { return u.In.From == u.In.To })
	return numbers(long, func(f api.Line) api.Quad {
		v := linear.Velocity(f)
		return quadratic.Constant(plane.Dot(v, v))
	})
}

// numbers returns the moving number whose functions are made from those of a moving point.
func numbers(l []unit, build func(f api.Line) api.Quad) []api.NumberUnit {
	number := func(u pieces.Unit[api.Quad]) api.NumberUnit { return api.NumberUnit(u) }
	return lists.Convert(pieces.Map(pieces.Quads{}, l, build), number)
}

// Turns returns the instants at which the velocity changes, and Jumps those at which the position does.
func Turns(l []api.PointUnit) []api.Real { return meetingsThat(l, true) }

func Jumps(l []api.PointUnit) []api.Real { return meetingsThat(l, false) }

// meetingsThat returns the instants at which neighbouring units meet, if they are turns, or if they are none.
func meetingsThat(l []api.PointUnit, areTurns bool) []api.Real {
	var list []api.Real
	for t, isTurn := range meetings(l) {
		if isTurn == areTurns {
			list = append(list, t)
		}
	}
	return slices.Compact(list) // both neighbours of a unit of one instant meet it there
}

// meetings yields the instants at which neighbouring units meet, and whether they are turns.
func meetings(l []api.PointUnit) iter.Seq2[api.Real, bool] {
	return func(yield func(t api.Real, isTurn bool) bool) {
		for u, next := range lists.Neighbours(l) {
			t := u.In.To
			if t != next.In.From {
				continue
			}
			belongs := !u.In.OpenTo || !next.In.OpenFrom
			if !yield(t, belongs && pieces.Lines{}.Same(u.F, next.F, t)) {
				return
			}
		}
	}
}

// corner is an instant with the coordinates of a position there.
type corner [3]api.Real

func cornerAt(f api.Line, t api.Real) corner {
	p := linear.At(f, t)
	return corner{t, p.X, p.Y}
}

// join returns the corner that has the better one of the numbers of two corners in each place.
func (c corner) join(d corner, better func(x, y api.Real) api.Real) corner {
	for k := range c {
		c[k] = better(c[k], d[k])
	}
	return c
}

// Box returns integers around all positions and instants, and Passes the period during which a moving point is at a position.
func Box(l []api.PointUnit) (api.Box, api.Errno) {
	if len(l) == 0 {
		return api.Box{}, api.ErrEmpty
	}
	low := cornerAt(l[0].F, l[0].In.From)
	high := low
	for _, u := range l {
		for _, t := range [...]api.Real{u.In.From, u.In.To} {
			c := cornerAt(u.F, t)
			low, high = low.join(c, real.Min), high.join(c, real.Max)
		}
	}
	return around(low, high)
}

// around returns the least box of integers between two corners.
func around(low, high corner) (api.Box, api.Errno) {
	const most = 1 << 40
	var sides [3][2]int
	for k := range sides {
		for n, i := range [...]api.Int{real.Floor(low[k]), real.Ceil(high[k])} {
			side, ok := integer.ToInt(i)
			if !ok || side < -most || side > most {
				return api.Box{}, api.ErrRange
			}
			sides[k][n] = side
		}
	}
	t, x, y := sides[0], sides[1], sides[2]
	return api.Box{X0: x[0], X1: x[1], Y0: y[0], Y1: y[1], T0: t[0], T1: t[1]}, api.OK
}

func Passes(l []api.PointUnit, p api.Point) []api.Interval {
	return period.Intersect(movingnumber.When(X(l), p.X, p.X), movingnumber.When(Y(l), p.Y, p.Y))
}
