package polygon

import (
	"slices"

	"viator/api"
	"viator/plane"
	"viator/rational"
)

// half is the fraction 1/2.
var half = api.Rat{Num: api.Int{Mag: "\x01"}, Den: api.Int{Mag: "\x02"}}

// Canonical returns the canonical form of a polygon, and Equal reports whether two polygons are the same set of points.
func Canonical(p api.Polygon) api.Polygon {
	form := api.Polygon{Outer: canonicalRing(p.Outer, 1)}
	for _, hole := range p.Holes {
		form.Holes = append(form.Holes, canonicalRing(hole, -1))
	}
	slices.SortFunc(form.Holes, byFirst)
	return form
}

// byFirst compares two rings by their first vertices.
func byFirst(l, m []api.Point) int {
	if len(l) == 0 || len(m) == 0 { // no rings of a valid polygon
		return len(l) - len(m)
	}
	return plane.Compare(l[0], m[0])
}

// canonicalRing returns a ring without the vertices between their neighbours, from its least vertex on, in the direction in which its area has the given sign.
func canonicalRing(l []api.Point, direction int) []api.Point {
	var ring []api.Point
	for k, p := range l {
		before, behind := l[(k+len(l)-1)%len(l)], l[(k+1)%len(l)]
		if plane.Orientation(before, p, behind) != 0 { // what is left out changes no direction in which others are passed
			ring = append(ring, p)
		}
	}
	if rational.Sign(RingArea2(ring)) != direction {
		slices.Reverse(ring)
	}
	first := 0
	for k, p := range ring {
		if plane.Compare(p, ring[first]) < 0 {
			first = k
		}
	}
	return slices.Concat(ring[first:], ring[:first])
}

func Equal(p, q api.Polygon) bool {
	p, q = Canonical(p), Canonical(q)
	return slices.Equal(p.Outer, q.Outer) && slices.EqualFunc(p.Holes, q.Holes, slices.Equal[[]api.Point])
}

// Inner returns a point inside of a polygon, the same one for all polygons that are the same set. It is halfway between the first two edges on a line directly above the lowest vertices: left of the first one all is outside, and no hole is as low.
func Inner(p api.Polygon) api.Point {
	p = Canonical(p)
	var heights []api.Rat
	for _, edge := range Edges(p) {
		heights = append(heights, edge.A.Y)
	}
	slices.SortFunc(heights, rational.Compare)
	heights = slices.Compact(heights)
	if len(heights) < 2 { // no valid polygon
		return api.Point{}
	}
	y := middle(heights[0], heights[1])
	crossings := crossingsAt(ringEdges(p.Outer), y)
	if len(crossings) < 2 {
		return api.Point{}
	}
	return api.Point{X: middle(crossings[0], crossings[1]), Y: y}
}

// middle returns the mean of two fractions.
func middle(a, b api.Rat) api.Rat { return rational.Mul(rational.Add(a, b), half) }

// crossingsAt returns where segments cross the horizontal line at y, in increasing order. No end of them lies on it.
func crossingsAt(l []api.Segment, y api.Rat) []api.Rat {
	var xs []api.Rat
	for _, s := range l {
		if rational.Compare(s.A.Y, y) != rational.Compare(s.B.Y, y) {
			r, _ := rational.Div(rational.Sub(y, s.A.Y), rational.Sub(s.B.Y, s.A.Y))
			xs = append(xs, plane.Divide(s, r).X)
		}
	}
	slices.SortFunc(xs, rational.Compare)
	return xs
}

// Contains reports whether every point of a polygon belongs to another one, and Touches whether both have a point in common.
func Contains(p, q api.Polygon) bool {
	// The inside of q is connected: if the border of p does not enter it, all of it is inside of p, or outside.
	border := Edges(q)
	for _, edge := range Edges(p) {
		if enters(edge, q, border) {
			return false
		}
	}
	return Locate(p, Inner(q)) == Inside
}

// enters tells whether a segment has a point inside of a polygon, whose edges are the border.
func enters(s api.Segment, p api.Polygon, border []api.Segment) bool {
	cuts := []api.Point{s.A, s.B}
	for _, edge := range border {
		switch meeting := plane.Meet(s, edge); meeting.Kind {
		case plane.Cross:
			return true
		case plane.Touch, plane.Overlap:
			cuts = append(cuts, meeting.Common.A, meeting.Common.B)
		}
	}
	slices.SortFunc(cuts, plane.Compare)
	cuts = slices.Compact(cuts)
	// What is between two neighbouring cuts is inside, outside or on the border as a whole.
	for k, from := range cuts[:len(cuts)-1] {
		if Locate(p, plane.Divide(api.Segment{A: from, B: cuts[k+1]}, half)) == Inside {
			return true
		}
	}
	return false
}

func Touches(p, q api.Polygon) bool {
	if len(p.Outer) == 0 || len(q.Outer) == 0 { // no valid polygons
		return false
	}
	// If the borders do not meet and there is a common point, the outer ring of one polygon is inside of the other one.
	return meet(Edges(p), Edges(q)) || Locate(p, q.Outer[0]) == Inside || Locate(q, p.Outer[0]) == Inside
}

// Translate returns a polygon that is moved by a vector.
func Translate(p api.Polygon, by api.Point) api.Polygon {
	moved := api.Polygon{Outer: translateRing(p.Outer, by)}
	for _, hole := range p.Holes {
		moved.Holes = append(moved.Holes, translateRing(hole, by))
	}
	return moved
}

func translateRing(l []api.Point, by api.Point) []api.Point {
	var ring []api.Point
	for _, p := range l {
		ring = append(ring, plane.Add(p, by))
	}
	return ring
}
