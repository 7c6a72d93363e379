package movingregion

import (
	"iter"
	"slices"

	"viator/api"
	"viator/linear"
	"viator/period"
	"viator/quadratic"
)

// Valid reports whether a shape is a valid polygon at an instant, and FirstBad returns where it ceases to be one within an interval.
func Valid(f Shape, t api.Real) bool {
	if hasShortRing(f) {
		return false
	}
	for x := range faults(f) {
		if x.happens(linear.SignsAt(t)) {
			return false
		}
	}
	return isNested(f, linear.SignsAt(t))
}

func FirstBad(f Shape, in api.Interval) (t api.Real, itself, bad bool) {
	if hasShortRing(f) {
		return in.From, !in.OpenFrom, true
	}
	good := []api.Interval{in} // what is before the faults so far
	for x := range faults(f) {
		if cell, found := firstCell(x, good); found {
			t, itself, bad = cell.From, !cell.OpenFrom, true
			behind := api.Interval{From: t, To: in.To, OpenFrom: cell.OpenFrom, OpenTo: in.OpenTo}
			good = period.Minus(good, []api.Interval{behind})
		}
	}
	// As long as no rings meet, none of them comes into another one, or leaves it.
	if len(good) > 0 && !isNested(f, linear.SignsAt(period.Pick(good[0]))) {
		return in.From, !in.OpenFrom, true
	}
	return t, itself, bad
}

// hasShortRing tells whether a ring has too few vertices.
func hasShortRing(f Shape) bool {
	return slices.ContainsFunc(rings(f), func(ring []api.Line) bool { return len(ring) < 3 })
}

// fault is something because of which a shape is not valid. Whether it happens at an instant depends on the signs of its functions there.
type fault struct {
	functions []api.Quad
	happens   func(sign func(q api.Quad) int) bool
}

// firstCell returns the first one of the cells into which the roots of its functions divide a period in which a fault happens.
func firstCell(x fault, during []api.Interval) (api.Interval, bool) {
	var roots []api.Real
	for _, q := range x.functions {
		zeros, _ := quadratic.Roots(q)
		roots = append(roots, zeros...)
	}
	for _, cell := range period.Cells(during, roots) {
		if x.happens(linear.SignsAt(period.Pick(cell))) {
			return cell, true
		}
	}
	return api.Interval{}, false
}

// edge leads from one vertex to another one, which are given by their numbers.
type edge struct{ from, to int }

// edges returns the vertices of all rings, and their edges.
func edges(f Shape) (vertices []api.Line, list []edge) {
	for _, ring := range rings(f) {
		first := len(vertices)
		for k := range len(ring) {
			list = append(list, edge{first + k, first + (k+1)%len(ring)})
		}
		vertices = append(vertices, ring...)
	}
	return vertices, list
}

// faults yields all that can be wrong with the edges of a shape.
func faults(f Shape) iter.Seq[fault] {
	return func(yield func(x fault) bool) {
		vertices, list := edges(f)
		for k := range list {
			for n := range k {
				if !yield(meeting(vertices, list[n], list[k])) {
					return
				}
			}
		}
	}
}

// meeting returns the fault that two edges meet as they must not.
func meeting(v []api.Line, e, g edge) fault {
	switch {
	case e.to == g.from:
		return fold(v[e.from], v[e.to], v[g.to])
	case g.to == e.from:
		return fold(v[g.from], v[g.to], v[e.to])
	}
	return crossing(v[e.from], v[e.to], v[g.from], v[g.to])
}

// fold returns the fault that the edges from a to b and from b to c have more than b in common, or no length.
func fold(a, b, c api.Line) fault {
	toA, toC := linear.Sub(a, b), linear.Sub(c, b)
	across, along := linear.Cross(toA, toC), linear.Dot(toA, toC)
	return fault{
		functions: []api.Quad{across, along},
		happens:   func(sign func(q api.Quad) int) bool { return sign(across) == 0 && sign(along) >= 0 },
	}
}

// crossing returns the fault that the edges from a to b and from c to d meet without being in line. Where edges in line overlap, there is another fault: one of them ends within the other one, or with it, and the edge that follows there leaves the line, folds, or overlaps in its turn, and no ring can stay on a line without a fold.
func crossing(a, b, c, d api.Line) fault {
	ofC, ofD, ofA, ofB := linear.Turn(a, b, c), linear.Turn(a, b, d), linear.Turn(c, d, a), linear.Turn(c, d, b)
	return fault{
		functions: []api.Quad{ofC, ofD, ofA, ofB},
		happens: func(sign func(q api.Quad) int) bool {
			inLine := sign(ofC) == 0 && sign(ofD) == 0
			return !inLine && sign(ofC)*sign(ofD) <= 0 && sign(ofA)*sign(ofB) <= 0
		},
	}
}

// isNested tells whether the holes are inside of the outer ring, and outside of one another, at an instant at which no rings meet.
func isNested(f Shape, sign func(q api.Quad) int) bool {
	for k, hole := range f.Holes {
		if !linear.Surrounds(f.Outer, hole[0], sign) {
			return false
		}
		for n, other := range f.Holes {
			if n != k && linear.Surrounds(other, hole[0], sign) {
				return false
			}
		}
	}
	return true
}
