package route

import (
	"viator/api"
	"viator/linear"
	"viator/lists"
	"viator/movinglabel"
	"viator/movingpoint"
	"viator/network"
	"viator/period"
	"viator/pieces"
	"viator/plane"
	"viator/rational"
	"viator/real"
	"viator/roads"
)

// Lift returns the route with a moving point and a moving label.
func Lift(n api.Network, p []api.PointUnit, labels []api.LabelUnit) ([]Leg, api.Errno) {
	if !period.Equal(movingpoint.Domain(p), movinglabel.Domain(labels)) {
		return nil, api.ErrUndefined
	}
	var legs []Leg
	for _, s := range sections(p, labels) {
		if s.In.From == s.In.To {
			continue
		}
		leg, e := lift(n, s)
		if e != api.OK {
			return nil, e
		}
		legs = append(legs, leg)
	}
	// These legs are normal, since p and the labels are. No other normal route has the same positions and roads during all sections that are longer than one instant.
	if Check(n, legs) != api.OK || !movingpoint.Same(Moving(n, legs), p) || !movinglabel.Equal(Roads(legs), labels) {
		return nil, api.ErrState
	}
	return legs, api.OK
}

// section is an interval with the line along which a point moves, and the road.
type section = pieces.Both[api.Line, int]

// sections returns the sections of a moving point and a moving label.
func sections(p []api.PointUnit, labels []api.LabelUnit) []section {
	lines := lists.Convert(p, func(u api.PointUnit) pieces.Unit[api.Line] { return pieces.Unit[api.Line](u) })
	ids := lists.Convert(labels, func(u api.LabelUnit) pieces.Unit[int] { return pieces.Unit[int]{In: u.In, F: u.Label} })
	return pieces.Refine(lines, ids)
}

// lift returns the leg that is a section.
func lift(n api.Network, s section) (Leg, api.Errno) {
	from, begins := real.Rational(s.In.From)
	to, ends := real.Rational(s.In.To)
	if !begins || !ends {
		return Leg{}, api.ErrTime
	}
	road, found := network.Road(n, s.G)
	if !found {
		return Leg{}, api.ErrNotFound
	}
	a, lies := offset(n, road, linear.AtRat(s.F, from))
	b, remains := offset(n, road, linear.AtRat(s.F, to))
	leg := Leg{From: from, To: to, Road: road.Id, A: a, B: b}
	switch {
	case !lies || !remains:
		return Leg{}, api.ErrShape
	case roads.IsDenied(road, way(leg)):
		return Leg{}, api.ErrDenied
	}
	return leg, api.OK
}

// offset returns the offset of a point on a road, and whether there is exactly one.
func offset(n api.Network, r api.Road, p api.Point) (api.Rat, bool) {
	line := segment(n, r)
	if line.A == line.B || !plane.OnSegment(p, line) {
		return api.Rat{}, false
	}
	_, ratio := plane.Nearest(p, line)
	return rational.Mul(ratio, rational.FromInt(r.Length)), true
}

// segment returns the segment of a road.
func segment(n api.Network, r api.Road) api.Segment {
	from, _ := network.Node(n, r.From)
	to, _ := network.Node(n, r.To)
	return api.Segment{A: plane.At(from.X, from.Y), B: plane.At(to.X, to.Y)}
}
