package movingregion

import (
	"viator/api"
	"viator/linear"
	"viator/lists"
	"viator/movingpoint"
	"viator/period"
	"viator/pieces"
	"viator/quadratic"
	"viator/rational"
)

// Area2 returns twice the area as a moving number, and Box the integers around the region in space and time.
func Area2(l []api.RegionUnit) []api.NumberUnit {
	areas := lists.Convert(units(l), func(u unit) pieces.Unit[api.Quad] {
		return pieces.Unit[api.Quad]{In: u.In, F: area2(u.F, period.Pick(u.In))}
	})
	normal, _ := pieces.Normal(pieces.Quads{}, areas)
	return lists.Convert(normal, func(u pieces.Unit[api.Quad]) api.NumberUnit { return api.NumberUnit(u) })
}

// area2 returns twice the area of a shape during an interval in which it is valid, and to which an instant belongs.
func area2(f Shape, t api.Real) api.Quad {
	area := ringArea2(f.Outer, t)
	for _, hole := range f.Holes {
		area = quadratic.Sub(area, ringArea2(hole, t))
	}
	return area
}

// ringArea2 returns twice the area of a ring. It runs in one direction as long as it is valid.
func ringArea2(ring []api.Line, t api.Real) api.Quad {
	var area api.Quad
	for k := range len(ring) {
		area = quadratic.Add(area, linear.Cross(ring[k], ring[(k+1)%len(ring)]))
	}
	return quadratic.Scale(area, rational.FromInt(quadratic.SignAt(area, t)))
}

func Box(l []api.RegionUnit) (api.Box, api.Errno) {
	if len(l) == 0 {
		return api.Box{}, api.ErrEmpty
	}
	var box api.Box
	for k, u := range l {
		for n, v := range u.Outer { // holes are inside
			next, e := movingpoint.Box([]api.PointUnit{{In: u.In, F: v}})
			if e != api.OK {
				return api.Box{}, e
			}
			if k == 0 && n == 0 {
				box = next
			}
			box = join(box, next)
		}
	}
	return box, api.OK
}

// join returns the least box that contains two boxes.
func join(a, b api.Box) api.Box {
	return api.Box{
		X0: min(a.X0, b.X0), X1: max(a.X1, b.X1),
		Y0: min(a.Y0, b.Y0), Y1: max(a.Y1, b.Y1),
		T0: min(a.T0, b.T0), T1: max(a.T1, b.T1),
	}
}
