package lifted

import (
	"iter"

	"viator/api"
	"viator/linear"
	"viator/movingbool"
	"viator/period"
	"viator/pieces"
	"viator/quadratic"
	"viator/rational"
)

// when returns when a condition on the functions of units holds: at an instant of several units, one of them is enough. It is asked at one instant of each of the parts into which the roots of critical functions divide a unit, and must not change within a part.
func when[F any](l []pieces.Unit[F], critical func(f F) iter.Seq[api.Quad], holds func(f F, sign func(q api.Quad) int) bool) api.Bool {
	var domain, times []api.Interval
	for _, u := range l {
		var roots []api.Real
		for q := range critical(u.F) {
			zeros, _ := quadratic.Roots(q)
			roots = append(roots, zeros...)
		}
		domain = append(domain, u.In)
		for _, part := range period.Cells([]api.Interval{u.In}, roots) {
			if holds(u.F, linear.SignsAt(period.Pick(part))) {
				times = append(times, part)
			}
		}
	}
	result, _ := movingbool.Make(domain, times)
	return result
}

// itself yields a function that is critical for its own sign.
func itself(q api.Quad) iter.Seq[api.Quad] {
	return func(yield func(q api.Quad) bool) { yield(q) }
}

// Within and WithinOf report when a distance is at most a number, and Meets when two moving points are at the same position.
func Within(a, b []api.PointUnit, r api.Rat) api.Bool { return isAtMost(Distance2(a, b), r) }

func WithinOf(a []api.PointUnit, p api.Point, r api.Rat) api.Bool {
	return isAtMost(DistanceTo2(a, p), r)
}

func Meets(a, b []api.PointUnit) api.Bool { return isAtMost(Distance2(a, b), api.Rat{}) }

// isAtMost reports when the root of a moving number is at most a number.
func isAtMost(squares []api.NumberUnit, r api.Rat) api.Bool {
	limit := quadratic.Constant(rational.Mul(r, r))
	var l []pieces.Unit[api.Quad]
	for _, u := range squares {
		l = append(l, pieces.Unit[api.Quad]{In: u.In, F: quadratic.Sub(u.F, limit)})
	}
	return when(l, itself, func(excess api.Quad, sign func(q api.Quad) int) bool {
		return rational.Sign(r) >= 0 && sign(excess) <= 0
	})
}

// Towards reports when the distance of two moving points decreases.
func Towards(a, b []api.PointUnit) api.Bool {
	var l []pieces.Unit[api.Quad]
	for _, u := range pieces.Refine(points(a), points(b)) {
		if u.In.From != u.In.To {
			l = append(l, pieces.Unit[api.Quad]{In: u.In, F: quadratic.Derivative(distance2(u.F, u.G))})
		}
	}
	return when(l, itself, func(rate api.Quad, sign func(q api.Quad) int) bool { return sign(rate) < 0 })
}
