package movingregion

import (
	"viator/api"
	"viator/linear"
	"viator/lists"
	"viator/polygon"
	"viator/rational"
	"viator/real"
)

const maxSnapshots = 64

func Snapshots(times []api.Rat, polygons []api.Polygon) ([]api.RegionUnit, api.Errno) {
	if e := checkSnapshots(times, polygons); e != api.OK {
		return nil, e
	}
	if len(times) == 1 {
		at := real.FromRat(times[0])
		return Static(polygons[0], []api.Interval{{From: at, To: at}}), api.OK
	}
	var l []unit
	for k := range len(times) - 1 {
		in := api.Interval{From: real.FromRat(times[k]), To: real.FromRat(times[k+1]), OpenFrom: k > 0}
		l = append(l, unit{In: in, F: between(times[k], polygons[k], times[k+1], polygons[k+1])})
	}
	return normal(l)
}

func checkSnapshots(times []api.Rat, polygons []api.Polygon) api.Errno {
	switch {
	case len(times) == 0:
		return api.ErrEmpty
	case len(polygons) != len(times):
		return api.ErrGap
	case len(times) > maxSnapshots:
		return api.ErrLimit
	}
	for t, next := range lists.Neighbours(times) {
		if rational.Compare(t, next) >= 0 {
			return api.ErrOrder
		}
	}
	for _, p := range polygons {
		if e := polygon.Check(p); e != api.OK {
			return e
		}
		if !agree(still(p), still(polygons[0]), func(v, w api.Line) bool { return true }) {
			return api.ErrForm
		}
	}
	return api.OK
}

// between returns the shape that is p at the instant t, and q at another instant u.
func between(t api.Rat, p api.Polygon, u api.Rat, q api.Polygon) Shape {
	ring := func(from, to []api.Point) []api.Line {
		list := make([]api.Line, len(from))
		for k := range len(from) {
			list[k], _ = linear.Between(t, from[k], u, to[k])
		}
		return list
	}
	f := Shape{Outer: ring(p.Outer, q.Outer)}
	for k := range len(p.Holes) {
		f.Holes = append(f.Holes, ring(p.Holes[k], q.Holes[k]))
	}
	return f
}
