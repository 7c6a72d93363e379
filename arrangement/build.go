package arrangement

import (
	"cmp"
	"maps"
	"slices"

	"viator/api"
	"viator/plane"
)

// maxHalfEdges is more than the number of half-edges that there can be: each segment brings its two ends to itself, and at most two vertices to each other one.
const maxHalfEdges = 2 * MaxSegments * 2 * MaxSegments

// Build returns the arrangement of segments.
func Build(l []api.Segment) (Arrangement, api.Errno) {
	if len(l) > MaxSegments {
		return Arrangement{}, api.ErrLimit
	}
	if slices.ContainsFunc(l, func(s api.Segment) bool { return s.A == s.B }) {
		return Arrangement{}, api.ErrShape
	}
	l = ordered(l)
	points := pointsOn(l)
	a := Arrangement{Vertices: vertices(points)}
	a.Edges = edges(a.Vertices, points)
	a.Faces = faces(a, stars(a, l))
	return a, api.OK
}

// ordered returns segments that lead from the lesser to the greater end.
func ordered(l []api.Segment) []api.Segment {
	l = slices.Clone(l)
	for k, s := range l {
		if plane.Compare(s.A, s.B) > 0 {
			l[k] = api.Segment{A: s.B, B: s.A}
		}
	}
	return l
}

// pointsOn returns the vertices on each segment, in any order and several times. A line that sweeps over the plane meets the segments whose lesser end it has passed, and whose greater end it has not: only these can meet the one that begins.
func pointsOn(l []api.Segment) [][]api.Point {
	points := make([][]api.Point, len(l))
	order := make([]int, len(l))
	for k, s := range l {
		order[k] = k
		points[k] = []api.Point{s.A, s.B}
	}
	slices.SortFunc(order, func(i, j int) int { return plane.Compare(l[i].A, l[j].A) })
	var active []int
	for _, i := range order {
		active = slices.DeleteFunc(active, func(j int) bool { return plane.Compare(l[j].B, l[i].A) < 0 })
		for _, j := range active {
			// The ends of a common segment are ends of one of both, and vertices of the other one, too.
			if meeting := plane.Meet(l[i], l[j]); meeting.Kind != plane.Apart {
				points[i] = append(points[i], meeting.Common.A, meeting.Common.B)
				points[j] = append(points[j], meeting.Common.A, meeting.Common.B)
			}
		}
		active = append(active, i)
	}
	return points
}

// vertices returns the points that occur on segments, each once, in increasing order.
func vertices(points [][]api.Point) []api.Point {
	found := map[api.Point]bool{}
	for _, p := range slices.Concat(points...) {
		found[p] = true
	}
	return slices.SortedFunc(maps.Keys(found), plane.Compare)
}

// pair is two neighbouring vertices on a segment.
type pair struct{ a, b int }

// edges returns the edges between the vertices on each segment.
func edges(vertices []api.Point, points [][]api.Point) []Edge {
	index := map[api.Point]int{}
	for k, p := range vertices {
		index[p] = k
	}
	of := map[pair][]int{}
	for segment, l := range points {
		var passed []int
		for _, p := range l {
			passed = append(passed, index[p])
		}
		slices.Sort(passed)
		passed = slices.Compact(passed)
		for k, b := range passed[1:] {
			between := pair{passed[k], b}
			of[between] = append(of[between], segment)
		}
	}
	var all []Edge
	for between, segments := range of {
		all = append(all, Edge{A: between.a, B: between.b, Of: segments})
	}
	slices.SortFunc(all, func(e, f Edge) int { return cmp.Or(cmp.Compare(e.A, f.A), cmp.Compare(e.B, f.B)) })
	return all
}

// stars returns the half-edges that leave each vertex, counterclockwise. The segments lead from the lesser to the greater end.
func stars(a Arrangement, l []api.Segment) [][]int {
	direction := func(h int) api.Point { // that of a segment has shorter numbers than that of two vertices
		s := l[a.Edges[h/2].Of[0]]
		if h%2 == 0 {
			return plane.Sub(s.B, s.A)
		}
		return plane.Sub(s.A, s.B)
	}
	leaving := make([][]int, len(a.Vertices))
	for h := range 2 * len(a.Edges) {
		leaving[Origin(a, h)] = append(leaving[Origin(a, h)], h)
	}
	for _, star := range leaving {
		slices.SortFunc(star, func(g, h int) int { return plane.Around(direction(g), direction(h)) })
	}
	return leaving
}

// nextOf returns for each half-edge the one that follows it on its border: the one before its twin in the star to which it leads.
func nextOf(a Arrangement, leaving [][]int) []int {
	next := make([]int, 2*len(a.Edges))
	for _, star := range leaving {
		for k, h := range star {
			next[twin(h)] = star[(k+len(star)-1)%len(star)]
		}
	}
	return next
}

// cycles returns the borders, in the order of their least half-edges, and the index of the border of each half-edge.
func cycles(next []int) (list [][]int, on []int) {
	var visited [maxHalfEdges]bool
	on = make([]int, len(next))
	for first := range next {
		var border []int
		for h := first; !visited[h]; h = next[h] {
			visited[h] = true
			on[h] = len(list)
			border = append(border, h)
		}
		if len(border) > 0 {
			list = append(list, border)
		}
	}
	return list, on
}

// faces returns the faces of an arrangement, of which the vertices and edges are there.
func faces(a Arrangement, leaving [][]int) []Face {
	list, on := cycles(nextOf(a, leaving))
	// The greatest vertex of a component has all of it on one side. The last half-edge that leaves it there has the outside of the component to its left.
	outside := map[int]int{} // from the borders to these vertices
	last := lastConnected(a)
	for k, star := range leaving {
		if last[k] == k {
			outside[on[star[len(star)-1]]] = k
		}
	}
	all := []Face{{}}
	faceOf := make([]int, len(list))
	for k, border := range list {
		if _, ok := outside[k]; !ok {
			faceOf[k] = len(all)
			all = append(all, Face{Outer: border})
		}
	}
	// What is above the greatest vertex of a component belongs to one with a greater vertex, whose face is known by then.
	for _, k := range slices.SortedFunc(maps.Keys(outside), func(i, j int) int { return cmp.Compare(outside[j], outside[i]) }) {
		v := outside[k]
		if edge := above(a, a.Vertices[v], v, v+1); edge >= 0 {
			faceOf[k] = faceOf[on[2*edge+1]]
		}
	}
	for k, border := range list {
		if _, ok := outside[k]; ok {
			all[faceOf[k]].Holes = append(all[faceOf[k]].Holes, border)
		}
	}
	return all
}
