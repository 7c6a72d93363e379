package overlay

import (
	"slices"

	"viator/api"
	"viator/arrangement"
	"viator/plane"
)

// Union, Intersect, Minus and Differ return the borders of what is in one or the other region, in both, in the first one only, and in exactly one of both.
func Union(a, b []api.Segment) ([]api.Segment, api.Errno) {
	return combine(a, b, func(inA, inB bool) bool { return inA || inB })
}

func Intersect(a, b []api.Segment) ([]api.Segment, api.Errno) {
	return combine(a, b, func(inA, inB bool) bool { return inA && inB })
}

func Minus(a, b []api.Segment) ([]api.Segment, api.Errno) {
	return combine(a, b, func(inA, inB bool) bool { return inA && !inB })
}

func Differ(a, b []api.Segment) ([]api.Segment, api.Errno) {
	return combine(a, b, func(inA, inB bool) bool { return inA != inB })
}

// combine returns the border of what is wanted, as is told from which ones of two regions contain it.
func combine(a, b []api.Segment, wanted func(inA, inB bool) bool) ([]api.Segment, api.Errno) {
	d, e := divide(a, b)
	if e != api.OK { // not for two borders
		return nil, e
	}
	return limited(d.border(wanted))
}

// division is the plane as the borders of two regions divide it: each face belongs to a region as a whole, or not at all.
type division struct {
	arrangement.Arrangement
	left []int     // the faces of the half-edges
	of   []regions // those that contain each face
}

// regions says which ones of two regions contain something.
type regions struct{ a, b bool }

func divide(a, b []api.Segment) (division, api.Errno) {
	parts, e := arrangement.Build(slices.Concat(a, b))
	if e != api.OK {
		return division{}, e
	}
	d := division{Arrangement: parts, left: leftFaces(parts)}
	d.of = d.contained(len(a))
	return d, api.OK
}

// leftFaces returns the face of each half-edge. (arrangement.Left would look for each one in all borders.)
func leftFaces(parts arrangement.Arrangement) []int {
	left := make([]int, 2*len(parts.Edges))
	for k, face := range parts.Faces {
		for _, h := range halfEdges(face) {
			left[h] = k
		}
	}
	return left
}

// halfEdges returns those of all borders of a face.
func halfEdges(face arrangement.Face) []int {
	return slices.Concat(slices.Concat(face.Holes...), face.Outer)
}

// contained returns which regions contain each face, given the number of segments of the first one. Neither contains the unbounded face; all others are reached from it over edges, each of which is a way into the regions of its segments, or out of them.
func (d division) contained(ofA int) []regions {
	of := make([]regions, len(d.Faces))
	known := make([]bool, len(d.Faces))
	known[0] = true
	for reached := []int{0}; len(reached) > 0; {
		face := reached[len(reached)-1]
		reached = reached[:len(reached)-1]
		for _, h := range halfEdges(d.Faces[face]) {
			next := d.left[arrangement.Twin(d.Arrangement, h)]
			if known[next] {
				continue
			}
			known[next] = true
			of[next] = behind(of[face], d.Edges[h/2], ofA)
			reached = append(reached, next)
		}
	}
	return of
}

// behind returns the regions that contain what is behind an edge, given those that contain what is before it.
func behind(of regions, edge arrangement.Edge, ofA int) regions {
	for _, segment := range edge.Of {
		if segment < ofA {
			of.a = !of.a
		} else {
			of.b = !of.b
		}
	}
	return of
}

// border returns the border of the faces that are wanted.
func (d division) border(wanted func(inA, inB bool) bool) []api.Segment {
	inside := make([]bool, len(d.Faces))
	for k, in := range d.of {
		inside[k] = wanted(in.a, in.b)
	}
	var parts []api.Segment
	add := func(h int) {
		if inside[d.left[h]] && !inside[d.left[arrangement.Twin(d.Arrangement, h)]] {
			from, to := arrangement.Origin(d.Arrangement, h), arrangement.Target(d.Arrangement, h)
			parts = append(parts, api.Segment{A: d.Vertices[from], B: d.Vertices[to]})
		}
	}
	// Edges are ordered by their lesser vertices, so that in this order each part of a line comes behind those that lead to it.
	for k := range d.Edges {
		add(2 * k)
	}
	for k := range d.Edges {
		add(2*(len(d.Edges)-1-k) + 1)
	}
	return joined(parts)
}

// joined returns the longest segments that parts form, in order. No two parts have more than ends in common, and each part of a line comes behind those that lead to it.
func joined(parts []api.Segment) []api.Segment {
	var whole []api.Segment
	ending := map[api.Point][]int{} // the indices of those that end at a point
	for _, part := range parts {
		leadsOn := func(k int) bool { return plane.Orientation(whole[k].A, whole[k].B, part.B) == 0 }
		k := len(whole)
		if n := slices.IndexFunc(ending[part.A], leadsOn); n >= 0 {
			k = ending[part.A][n]
			whole[k].B = part.B
		} else {
			whole = append(whole, part)
		}
		ending[part.B] = append(ending[part.B], k)
	}
	slices.SortFunc(whole, byEnds)
	return whole
}
