package arrangement_test

import (
	"cmp"
	"math/rand"
	"slices"

	"viator/api"
	"viator/arrangement"
	"viator/plane"
	"viator/rational"
)

// model makes an arrangement by the words of its definition, without care for time.
type model struct {
	arrangement.Arrangement
	next    []int
	borders [][]int
	face    []int // of the half-edges
}

func newModel(l []api.Segment) *model {
	m := &model{}
	m.Vertices = definedVertices(l)
	m.Edges = definedEdges(m.Vertices, l)
	for h := range 2 * len(m.Edges) {
		m.next = append(m.next, m.definedNext(h))
	}
	m.findBorders()
	m.findFaces()
	return m
}

func definedVertices(l []api.Segment) []api.Point {
	var points []api.Point
	for _, s := range l {
		points = append(points, s.A, s.B)
		for _, other := range l {
			if m := plane.Meet(s, other); m.Kind == plane.Touch || m.Kind == plane.Cross {
				points = append(points, m.Common.A)
			}
		}
	}
	slices.SortFunc(points, plane.Compare)
	return slices.Compact(points)
}

func definedEdges(vertices []api.Point, l []api.Segment) []arrangement.Edge {
	var all []arrangement.Edge
	for k, s := range l {
		before := -1
		for v, p := range vertices {
			if !plane.OnSegment(p, s) {
				continue
			}
			n := slices.IndexFunc(all, func(e arrangement.Edge) bool { return e.A == before && e.B == v })
			switch {
			case before >= 0 && n >= 0:
				all[n].Of = append(all[n].Of, k)
			case before >= 0:
				all = append(all, arrangement.Edge{A: before, B: v, Of: []int{k}})
			}
			before = v
		}
	}
	slices.SortFunc(all, func(e, f arrangement.Edge) int { return cmp.Or(e.A-f.A, e.B-f.B) })
	return all
}

// ends returns the vertices from which and to which a half-edge leads.
func (m *model) ends(h int) (from, to int) {
	if h%2 == 0 {
		return m.Edges[h/2].A, m.Edges[h/2].B
	}
	return m.Edges[h/2].B, m.Edges[h/2].A
}

func (m *model) segment(h int) api.Segment {
	from, to := m.ends(h)
	return api.Segment{A: m.Vertices[from], B: m.Vertices[to]}
}

// definedNext turns the direction back clockwise, until it is that of a half-edge that leaves the vertex.
func (m *model) definedNext(h int) int {
	back := h ^ 1
	at, _ := m.ends(back)
	way := func(g int) api.Point { return plane.Sub(m.segment(g).B, m.segment(g).A) }
	best := back
	for g := range 2 * len(m.Edges) {
		if from, _ := m.ends(g); from != at || g == back {
			continue
		}
		// Both directions as turns clockwise from that of back: those below it come first, from the greatest one on, and then those above it.
		wrapped := func(g int) bool { return plane.Around(way(g), way(back)) > 0 }
		if best == back || !wrapped(g) && wrapped(best) || wrapped(g) == wrapped(best) && plane.Around(way(g), way(best)) > 0 {
			best = g
		}
	}
	return best
}

func (m *model) findBorders() {
	for h := range m.next {
		cycle := []int{h}
		for g := m.next[h]; g != h; g = m.next[g] {
			cycle = append(cycle, g)
		}
		if slices.Min(cycle) == h {
			m.borders = append(m.borders, cycle)
		}
	}
}

// area returns twice the area of a border.
func (m *model) area(border []int) api.Rat {
	var sum api.Rat
	for _, h := range border {
		s := m.segment(h)
		sum = rational.Add(sum, plane.CrossProduct(s.A, s.B))
	}
	return sum
}

// surrounds tells whether a border has a point that is not on it inside: whether a ray that meets no vertex crosses it an odd number of times.
func (m *model) surrounds(border []int, p api.Point) bool {
	far := plane.Add(p, plane.At(1000000, 1009))
	for slices.ContainsFunc(m.Vertices, func(v api.Point) bool { return v != p && plane.Orientation(p, far, v) == 0 }) {
		far = plane.Add(far, plane.At(0, 1))
	}
	odd := false
	for _, h := range border {
		if plane.Meet(m.segment(h), api.Segment{A: p, B: far}).Kind == plane.Cross {
			odd = !odd
		}
	}
	return odd
}

// around returns the face with the least outer border that has a point inside, of those that are not excluded.
func (m *model) around(p api.Point, excluded func(face int) bool) int {
	best := 0
	for k, f := range m.Faces[1:] {
		if !excluded(k+1) && m.surrounds(f.Outer, p) && (best == 0 || rational.Compare(m.area(f.Outer), m.area(m.Faces[best].Outer)) < 0) {
			best = k + 1
		}
	}
	return best
}

// findFaces tells the borders apart by their areas, and finds for each component the face in which it lies.
func (m *model) findFaces() {
	m.Faces = []arrangement.Face{{}}
	for _, border := range m.borders {
		if rational.Sign(m.area(border)) > 0 {
			m.Faces = append(m.Faces, arrangement.Face{Outer: border})
		}
	}
	component := m.component()
	for _, border := range m.borders {
		if rational.Sign(m.area(border)) > 0 {
			continue
		}
		v, _ := m.ends(border[0])
		own := func(face int) bool {
			w, _ := m.ends(m.Faces[face].Outer[0])
			return component[w] == component[v]
		}
		face := &m.Faces[m.around(m.Vertices[v], own)]
		face.Holes = append(face.Holes, border)
	}
	m.face = make([]int, len(m.next))
	for k, f := range m.Faces {
		for _, border := range append([][]int{f.Outer}, f.Holes...) {
			for _, h := range border {
				m.face[h] = k
			}
		}
	}
}

// component returns for each vertex the least one with which edges connect it.
func (m *model) component() []int {
	least := make([]int, len(m.Vertices))
	for v := range least {
		least[v] = v
	}
	for range m.Vertices {
		for _, e := range m.Edges {
			both := min(least[e.A], least[e.B])
			least[e.A], least[e.B] = both, both
		}
	}
	return least
}

// locate finds the place of a point.
func (m *model) locate(p api.Point) arrangement.Place {
	if v := slices.Index(m.Vertices, p); v >= 0 {
		return arrangement.Place{Kind: arrangement.AtVertex, Index: v}
	}
	for k := range m.Edges {
		if plane.OnSegment(p, m.segment(2*k)) {
			return arrangement.Place{Kind: arrangement.OnEdge, Index: k}
		}
	}
	return arrangement.Place{Kind: arrangement.InFace, Index: m.around(p, func(int) bool { return false })}
}

// special returns lists of segments that lie to each other in a special way.
func special() [][]api.Segment {
	return [][]api.Segment{
		nil,
		segs("0 0 1 1"), segs("1 1 0 0"), segs("0 1 0 0"), segs("0 0 1 1 0 0 1 1 1 1 0 0"),
		segs("0 0 4 0 2 0 6 0"), segs("0 0 6 0 2 0 4 0"), segs("0 0 2 0 2 0 4 0 1 0 3 0"), segs("0 0 0 4 0 2 0 6"), segs("0 0 6 0 2 0 4 0 3 -1 3 1"),
		segs("0 0 4 4 0 4 4 0"), segs("0 0 4 4 0 4 4 0 2 -1 2 5 -1 2 5 2"), segs("0 0 4 0 2 0 2 3"), segs("0 0 4 0 2 -3 2 0"), segs("0 0 4 0 4 0 4 4"),
		sides("0 0 4 0 0 4"), sides("0 0 9 0 0 9 1 1 3 1 1 3"), append(sides("0 0 9 0 0 9"), sides("1 1 3 1 1 3")...), append(sides("0 0 9 0 0 9"), segs("1 1 2 1 2 1 2 2")...), append(sides("0 0 9 0 9 9 0 9"), append(sides("1 1 8 1 8 8 1 8"), sides("2 2 7 2 7 7 2 7")...)...),
		append(sides("0 0 9 0 9 9 0 9"), append(sides("1 1 3 1 3 3 1 3"), sides("5 1 7 1 7 3 5 3")...)...), append(sides("0 0 9 0 9 9 0 9"), append(sides("3 3 5 3 5 5 3 5"), sides("3 6 5 6 4 8")...)...), append(sides("0 0 9 0 9 9 0 9"), segs("2 1 2 2 2 3 2 4 2 5 2 6 2 7 2 8")...),
		append(sides("0 0 4 8 9 0"), segs("1 1/2 2 1 2 1 2 1/2")...), append(segs("0 0 9 1"), segs("1 -1 2 0 3 3 4 4")...), append(sides("0 0 4 0 4 4 0 4"), sides("4 4 8 4 8 8 4 8")...), append(sides("0 0 4 0 4 4 0 4"), sides("4 0 8 0 8 4 4 4")...), append(sides("0 0 8 0 8 8 0 8"), sides("0 0 4 1 1 4")...), append(sides("0 0 8 0 8 8 0 8"), sides("8 8 4 7 7 4")...), append(sides("0 0 8 0 8 8 0 8"), segs("0 0 4 4 8 8 5 5 4 0 4 2")...),
		append(sides("0 0 8 0 4 8"), append(sides("4 2 5 3 3 3"), segs("4 0 4 1 4 4 4 5")...)...), append(sides("2 0 0 2 2 4 4 2"), segs("2 1 2 3 5 0 5 4 1 2 3/2 2")...), append(sides("0 0 5 5 0 5"), segs("5 0 5 4 5 6 5 9")...),
		segs("0 0 1000000000000 1 0 1/1000000000000 1000000000000 0 0 -1 1 1"), segs("-3 0 3 0 0 -3 0 3 -3 -3 3 3 -3 3 3 -3 -1 -3 1 3 -3 1 3 -1"), segs("0 0 3 1 0 0 3 2 0 0 3 3 3 -9 3 9"),
		append(sides("-1 -1 10 -1 10 10 -1 10"), append(sides("0 5 3 5 3 8 0 8"), append(sides("4 1 6 1 6 3 4 3"), segs("3 8 5 9 6 3 7 5 1 6 2 7")...)...)...),
	}
}

// random returns lists of segments on small grids, on which much of what is special happens, and lists of longer ones.
func random(seed int64, count int) [][]api.Segment {
	r := rand.New(rand.NewSource(seed))
	var lists [][]api.Segment
	for len(lists) < count {
		side := 2 + r.Intn(9)
		var l []api.Segment
		for range 1 + r.Intn(14) {
			a := plane.At(r.Intn(side), r.Intn(side))
			b := plane.At(r.Intn(side), r.Intn(side))
			if len(lists)%3 == 0 { // short ones, which seldom meet
				b = plane.Add(a, plane.At(r.Intn(3)-1, r.Intn(3)-1))
			}
			if a != b {
				l = append(l, api.Segment{A: a, B: b})
			}
		}
		lists = append(lists, l)
	}
	return lists
}
