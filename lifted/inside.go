package lifted

import (
	"iter"
	"slices"

	"viator/api"
	"viator/linear"
	"viator/lists"
	"viator/movingbool"
	"viator/movingpoint"
	"viator/movingregion"
	"viator/pieces"
)

// Inside reports when a moving point is in a moving region, Border when it is on its border, and InPolygon when it is in a polygon.
func Inside(a []api.PointUnit, z []api.RegionUnit) api.Bool {
	border := Border(a, z)
	// Apart from the border, a position comes into a region, or leaves it, only where another visit begins.
	rest := movingpoint.Restrict(a, movingbool.False(border))
	none := func(v visit) iter.Seq[api.Quad] { return func(yield func(q api.Quad) bool) {} }
	return movingbool.Either(border, when(visits(rest, z), none, visit.isInside))
}

func Border(a []api.PointUnit, z []api.RegionUnit) api.Bool {
	var l []pieces.Unit[contact]
	for _, v := range visits(a, z) {
		for _, ring := range v.F.rings {
			for k := range len(ring) {
				l = append(l, pieces.Unit[contact]{In: v.In, F: contactWith(ring[k], ring[(k+1)%len(ring)], v.F.position)})
			}
		}
	}
	return when(l, contact.critical, contact.holds)
}

func InPolygon(a []api.PointUnit, p api.Polygon) api.Bool {
	return Inside(a, movingregion.Static(p, movingpoint.Domain(a)))
}

// visit is a position with the rings of a region, the outer one first.
type visit struct {
	position api.Line
	rings    [][]api.Line
}

// visits returns the units during which a moving point and a moving region are defined.
func visits(a []api.PointUnit, z []api.RegionUnit) []pieces.Unit[visit] {
	rings := lists.Convert(z, func(u api.RegionUnit) pieces.Unit[[][]api.Line] {
		return pieces.Unit[[][]api.Line]{In: u.In, F: slices.Concat([][]api.Line{u.Outer}, u.Holes)}
	})
	var l []pieces.Unit[visit]
	for _, u := range pieces.Refine(points(a), rings) {
		l = append(l, pieces.Unit[visit]{In: u.In, F: visit{position: u.F, rings: u.G}})
	}
	return l
}

// isInside tells whether a position is inside of a region, on whose border it is not.
func (v visit) isInside(sign func(q api.Quad) int) bool {
	surrounds := func(ring []api.Line) bool { return linear.Surrounds(ring, v.position, sign) }
	return surrounds(v.rings[0]) && !slices.ContainsFunc(v.rings[1:], surrounds)
}

// contact contains the functions that tell whether a position is on a segment: across is 0 on its line, and along is then not positive between its ends.
type contact struct{ across, along api.Quad }

func contactWith(from, to, position api.Line) contact {
	return contact{
		across: linear.Turn(from, to, position),
		along:  linear.Dot(linear.Sub(from, position), linear.Sub(to, position)),
	}
}

// critical yields functions at whose roots contact can begin or end. Unless the position stays on the line, it is there at the roots of across only.
func (c contact) critical() iter.Seq[api.Quad] {
	return func(yield func(q api.Quad) bool) {
		if yield(c.across) && c.across == (api.Quad{}) {
			yield(c.along)
		}
	}
}

func (c contact) holds(sign func(q api.Quad) int) bool {
	return sign(c.across) == 0 && sign(c.along) <= 0
}

// On reports when a moving point is on a segment.
func On(a []api.PointUnit, s api.Segment) api.Bool {
	from, to := linear.Fixed(s.A), linear.Fixed(s.B)
	l := lists.Convert(a, func(u api.PointUnit) pieces.Unit[contact] {
		return pieces.Unit[contact]{In: u.In, F: contactWith(from, to, u.F)}
	})
	return when(l, contact.critical, contact.holds)
}
