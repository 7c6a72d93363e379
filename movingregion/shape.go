package movingregion

import (
	"slices"

	"viator/api"
	"viator/linear"
	"viator/lists"
	"viator/pieces"
)

// Shape is the function of a unit: rings whose vertices are moving points.
type Shape struct {
	Outer []api.Line
	Holes [][]api.Line
}

// Shapes are the rules of shapes (13).
type Shapes struct{}

func (Shapes) Check(f Shape) api.Errno {
	if len(f.Holes) > api.MaxRings-1 {
		return api.ErrLimit
	}
	for _, ring := range rings(f) {
		if len(ring) > api.MaxVertices {
			return api.ErrLimit
		}
	}
	for _, v := range slices.Concat(rings(f)...) {
		if e := (pieces.Lines{}).Check(v); e != api.OK {
			return e
		}
	}
	return api.OK
}

func (Shapes) Equal(f, g Shape) bool { return agree(f, g, pieces.Lines{}.Equal) }

func (Shapes) Same(f, g Shape, t api.Real) bool {
	return agree(f, g, func(v, w api.Line) bool { return pieces.Lines{}.Same(v, w, t) })
}

func (Shapes) Reduce(f Shape, t api.Real) Shape {
	return build(f, func(v api.Line) api.Line { return pieces.Lines{}.Reduce(v, t) })
}

// rings returns the outer ring and the holes.
func rings(f Shape) [][]api.Line { return slices.Concat([][]api.Line{f.Outer}, f.Holes) }

// agree tells whether two shapes have equally many rings and vertices, and all vertices of one are the same as those of the other one.
func agree(f, g Shape, same func(v, w api.Line) bool) bool {
	return slices.EqualFunc(rings(f), rings(g), func(r, s []api.Line) bool { return slices.EqualFunc(r, s, same) })
}

// build returns the shape whose vertices are made from those of another one, in memory of its own.
func build(f Shape, vertex func(v api.Line) api.Line) Shape {
	ring := func(r []api.Line) []api.Line { return lists.Convert(r, vertex) }
	return Shape{Outer: ring(f.Outer), Holes: lists.Convert(f.Holes, ring)}
}

// still returns the shape that is a polygon all the time.
func still(p api.Polygon) Shape {
	ring := func(r []api.Point) []api.Line { return lists.Convert(r, linear.Fixed) }
	return Shape{Outer: ring(p.Outer), Holes: lists.Convert(p.Holes, ring)}
}

// polygonAt returns the polygon of a shape at an instant.
func polygonAt(f Shape, t api.Rat) api.Polygon {
	ring := func(r []api.Line) []api.Point {
		return lists.Convert(r, func(v api.Line) api.Point { return linear.AtRat(v, t) })
	}
	return api.Polygon{Outer: ring(f.Outer), Holes: lists.Convert(f.Holes, ring)}
}
