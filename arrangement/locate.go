package arrangement

import (
	"slices"

	"viator/api"
	"viator/plane"
	"viator/rational"
)

// Place is where a point lies: at a vertex, on an edge, or in a face.
type Place struct{ Kind, Index int }

// The kinds of places.
const (
	AtVertex = 1
	OnEdge   = 2
	InFace   = 3
)

// half is the fraction 1/2.
var half = api.Rat{Num: api.Int{Mag: "\x01"}, Den: api.Int{Mag: "\x02"}}

// Locate returns where a point lies.
func Locate(a Arrangement, p api.Point) Place {
	place, found := slices.BinarySearchFunc(a.Vertices, p, plane.Compare)
	if found {
		return Place{AtVertex, place}
	}
	for k, edge := range a.Edges {
		if edge.A < place && edge.B >= place && isOn(a, k, p) {
			return Place{OnEdge, k}
		}
	}
	return Place{InFace, faceBelow(a, above(a, p, place, place))}
}

// isOn tells whether the line of an edge contains a point.
func isOn(a Arrangement, edge int, p api.Point) bool {
	s := line(a, edge)
	return plane.Orientation(s.A, s.B, p) == 0
}

// above returns the lowest edge above a point, or -1 if there is none. The vertices before the first index are less than the point, and those from the second index on are greater: an edge from the former to the latter passes the point above or below it.
//
// So an edge that ends exactly above the point counts, and one that begins there does not, as if the ray upwards leaned to the left a little. It meets no vertex and no upright edge.
func above(a Arrangement, p api.Point, first, second int) int {
	lowest := -1
	var height, slope api.Rat
	for k, edge := range a.Edges {
		if edge.A >= first || edge.B < second {
			continue
		}
		s := line(a, k)
		if plane.Orientation(s.A, s.B, p) != -1 {
			continue
		}
		y, rise := heightAt(s, p.X)
		order := rational.Compare(y, height)
		// At the same height, both lead to the same vertex exactly above the point: left of it, the steeper one is below.
		if lowest < 0 || order < 0 || order == 0 && rational.Compare(rise, slope) > 0 {
			lowest, height, slope = k, y, rise
		}
	}
	return lowest
}

// heightAt returns the Y of a segment that is not upright at an X, and its slope.
func heightAt(s api.Segment, x api.Rat) (y, slope api.Rat) {
	way := plane.Sub(s.B, s.A)
	slope, _ = rational.Div(way.Y, way.X)
	return rational.Add(s.A.Y, rational.Mul(slope, rational.Sub(x, s.A.X))), slope
}

// faceBelow returns the face below an edge that is not upright: to the left of the way back. Without an edge, it is the unbounded one.
func faceBelow(a Arrangement, edge int) int {
	if edge < 0 {
		return 0
	}
	return Left(a, 2*edge+1)
}

// Sample returns a point in a face.
func Sample(a Arrangement, face int) (api.Point, api.Errno) {
	switch {
	case face < 0 || face >= len(a.Faces):
		return api.Point{}, api.ErrRange
	case face == 0:
		return plane.Add(vertex(a, len(a.Vertices)-1), plane.At(1, 0)), api.OK
	}
	for _, h := range a.Faces[face].Outer {
		if p, ok := sampleAbove(a, h); ok {
			return p, api.OK
		}
	}
	return api.Point{}, api.ErrRange
}

// firstBehind returns the index of the first vertex with a greater X.
func firstBehind(a Arrangement, x api.Rat) int {
	next, _ := slices.BinarySearchFunc(a.Vertices, x, func(p api.Point, x api.Rat) int {
		if rational.Compare(p.X, x) > 0 {
			return 1
		}
		return -1
	})
	return next
}

// sampleAbove returns a point directly above a half-edge that leads to the right, and whether it does: halfway up to the next edge, at an X at which there are no vertices.
func sampleAbove(a Arrangement, h int) (api.Point, bool) {
	from := vertex(a, Origin(a, h))
	if rational.Compare(from.X, vertex(a, Target(a, h)).X) >= 0 {
		return api.Point{}, false
	}
	next := firstBehind(a, from.X)
	x := rational.Mul(rational.Add(from.X, vertex(a, next).X), half)
	y, _ := heightAt(line(a, h/2), x)
	edge := above(a, api.Point{X: x, Y: y}, next, next)
	if edge < 0 {
		return api.Point{}, false
	}
	top, _ := heightAt(line(a, edge), x)
	return api.Point{X: x, Y: rational.Mul(rational.Add(y, top), half)}, true
}
