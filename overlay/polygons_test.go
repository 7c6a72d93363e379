package overlay_test

import (
	"math/rand"
	"slices"
	"testing"

	"viator/api"
	"viator/overlay"
	"viator/plane"
	"viator/polygon"
	"viator/rational"
)

func equalPoly(p, q api.Polygon) bool {
	return slices.Equal(p.Outer, q.Outer) && slices.EqualFunc(p.Holes, q.Holes, slices.Equal[[]api.Point])
}

func showPolys(l []api.Polygon) string {
	s := ""
	for _, p := range l {
		s += "[" + show(p.Outer...)
		for _, hole := range p.Holes {
			s += "; " + show(hole...)
		}
		s += "]"
	}
	return s
}

// components divides a set into those of its parts in which a way leads over sides from each triangle to each other one.
func (g grid) components(s set) []set {
	sideOf := map[way]int{} // a triangle to the left
	for k := range s {
		t := g.triangle(k)
		for n := range t {
			sideOf[way{t[n], t[(n+1)%3]}] = k
		}
	}
	s = slices.Clone(s)
	var all []set
	for first := range s {
		if !s[first] {
			continue
		}
		part := make(set, len(s))
		for reached := []int{first}; len(reached) > 0; {
			k := reached[0]
			reached = reached[1:]
			part[k], s[k] = true, false
			t := g.triangle(k)
			for n := range t {
				if other, ok := sideOf[way{t[(n+1)%3], t[n]}]; ok && s[other] {
					reached = append(reached, other)
				}
			}
		}
		all = append(all, part)
	}
	return all
}

// isTouching tells by the words of the promise whether an end of a segment lies on another segment, but on the one that begins or ends there, and whether segments cross.
func isTouching(r []api.Segment) bool {
	for _, s := range r {
		begin, end := 0, 0
		for _, t := range r {
			if plane.Meet(s, t).Kind == plane.Cross {
				return true
			}
			if s != t && plane.OnSegment(s.A, t) {
				begin++
			}
			if s != t && plane.OnSegment(s.B, t) {
				end++
			}
		}
		if begin > 1 || end > 1 { // the next one, and the one before, are there
			return true
		}
	}
	return false
}

// polygonOf returns the polygon whose border consists of the rings of some segments, in canonical form.
func polygonOf(r []api.Segment) api.Polygon {
	var p api.Polygon
	for _, first := range r {
		ring := []api.Point{first.A}
		for at := first.B; at != first.A; {
			ring = append(ring, at)
			at = r[slices.IndexFunc(r, func(s api.Segment) bool { return s.A == at })].B
		}
		switch {
		case slices.MinFunc(ring, plane.Compare) != first.A: // it has been, or is going to be, a ring
		case rational.Sign(polygon.RingArea2(ring)) > 0:
			p.Outer = ring
		default:
			p.Holes = append(p.Holes, ring)
		}
	}
	slices.SortFunc(p.Holes, func(l, m []api.Point) int { return plane.Compare(l[0], m[0]) })
	return p
}

// polygonsOf returns what Polygons has to return for the border of a set.
func (g grid) polygonsOf(s set) ([]api.Polygon, api.Errno) {
	if isTouching(g.border(s)) {
		return nil, api.ErrShape
	}
	var all []api.Polygon
	for _, part := range g.components(s) {
		p := polygonOf(g.border(part))
		if len(p.Holes) >= api.MaxRings || slices.ContainsFunc(append(p.Holes, p.Outer), func(l []api.Point) bool { return len(l) > api.MaxVertices }) {
			return nil, api.ErrLimit
		}
		all = append(all, p)
	}
	slices.SortFunc(all, func(p, q api.Polygon) int { return plane.Compare(p.Outer[0], q.Outer[0]) })
	return all, api.OK
}

func TestP11_3Sets(t *testing.T) {
	results := map[api.Errno]int{}
	check := func(g grid, s set) {
		want, e := g.polygonsOf(s)
		results[e]++
		l, got := overlay.Polygons(g.border(s))
		if got != e || !slices.EqualFunc(l, want, equalPoly) {
			t.Errorf("Polygons(%s) = %s, %d, not %s, %d", showSegs(g.border(s)), showPolys(l), got, showPolys(want), e)
		}
	}
	pairs(func(g grid, a, b set) {
		check(g, a)
		check(g, b)
	})
	r := rand.New(rand.NewSource(16))
	for range 150 { // few triangles, which seldom touch one another, or what is left of a square with few holes
		for _, g := range grids(8) {
			s := make(set, 4*g.side*g.side)
			for range 1 + r.Intn(8) {
				s[r.Intn(len(s))] = true
			}
			if r.Intn(2) == 0 {
				s = g.combine(s, s, func(a, _ bool) bool { return !a })
			}
			check(g, s)
		}
	}
	if min(results[api.OK], results[api.ErrShape], results[api.ErrLimit]) < 10 {
		t.Errorf("the results: %v", results)
	}
}

func TestP11_3Polygons(t *testing.T) {
	for _, p := range polygons(120) {
		r, _ := overlay.FromPolygon(p)
		if l, e := overlay.Polygons(r); e != api.OK || len(l) != 1 || !equalPoly(l[0], polygon.Canonical(p)) {
			t.Errorf("Polygons(%s) = %s, %d", showSegs(r), showPolys(l), e)
		}
	}
	if l, e := overlay.Polygons(nil); e != api.OK || len(l) != 0 {
		t.Errorf("Polygons of nothing = %s, %d", showPolys(l), e)
	}
}

// together returns the border of polygons that are apart.
func together(l ...api.Polygon) []api.Segment {
	var r []api.Segment
	for _, p := range l {
		r = append(r, polygon.Edges(polygon.Canonical(p))...)
	}
	slices.SortFunc(r, inOrder)
	return r
}

func TestP11_3Nested(t *testing.T) {
	nested := poly("0 0 99 0 99 99 0 99", "1 1 1 98 98 98 98 1")
	within := poly("2 2 97 2 97 97 2 97", "3 3 3 50 50 50 50 3", "3 60 3 90 90 90 90 60", "60 3 60 50 90 50 90 3")
	deep := poly("4 4 49 4 49 49 4 49", "5 5 5 6 6 5", "40 5 40 6 41 5")
	beside := poly("61 4 89 4 89 49 61 49", "62 5 62 48 88 48 88 5")
	dot := poly("70 20 71 20 70 21")
	first := poly("-5 50 -4 50 -5 51")
	want := []api.Polygon{first, nested, within, deep, beside, dot}
	r := together(dot, deep, nested, first, beside, within)
	if l, e := overlay.Polygons(r); overlay.Check(r) != api.OK || e != api.OK || !slices.EqualFunc(l, want, equalPoly) {
		t.Errorf("Polygons(%s) = %s, %d", showSegs(r), showPolys(l), e)
	}
	for _, p := range want {
		if polygon.Check(p) != api.OK || !equalPoly(polygon.Canonical(p), p) {
			t.Errorf("%s is not in canonical form", showPolys([]api.Polygon{p}))
		}
	}
}

func TestP11_3Errors(t *testing.T) {
	square := region("0 0 2 0 2 2 0 2")
	at := func(x, y int) []api.Segment { return overlay.Translate(square, plane.At(x, y)) }
	const thirteen = "0 0 4 1 7 3 9 6 10 10 9 14 7 17 4 19 0 20 -4 18 -7 14 -8 9 -5 3"
	long, twelve := polygonEdges(points(thirteen)), polygonEdges(points(thirteen)[:12])
	holes := func(n int) api.Polygon {
		p := poly("-20 -20 40 -20 40 40 -20 40")
		for k := range n {
			p.Holes = append(p.Holes, points("1 1 1 2 2 1"))
			for i := range p.Holes[k] {
				p.Holes[k][i] = plane.Add(p.Holes[k][i], plane.At(20, 3*k))
			}
		}
		return p
	}
	big := together(holes(3))
	for k, c := range []struct {
		r []api.Segment
		n int
		e api.Errno
	}{
		{do(t, overlay.Union, square, at(2, 2)), 0, api.ErrShape}, {do(t, overlay.Union, square, region("2 1 3 0 3 2")), 0, api.ErrShape}, {do(t, overlay.Minus, region("0 0 6 0 6 6 0 6"), region("2 2 4 2 3 6")), 0, api.ErrShape}, {do(t, overlay.Minus, region("0 0 6 0 6 6 0 6"), region("2 2 4 2 6 6")), 0, api.ErrShape}, {segs(star), 0, api.ErrShape}, {do(t, overlay.Differ, square, at(1, 1)), 0, api.ErrShape},
		{do(t, overlay.Union, square, at(3, 0)), 2, api.OK}, {do(t, overlay.Union, square, at(2, 0)), 1, api.OK}, {long, 0, api.ErrLimit}, {twelve, 1, api.OK}, {reversed(long, "-20 -20 40 -20 40 40 -20 40"), 0, api.ErrLimit}, {reversed(twelve, "-20 -20 40 -20 40 40 -20 40"), 1, api.OK}, {big, 1, api.OK}, {together(holes(4)), 0, api.ErrLimit}, {together(holes(3), poly("21 41 23 41 21 43", "43/2 83/2 43/2 42 22 83/2")), 2, api.OK},
		{do(t, overlay.Union, long, do(t, overlay.Union, at(50, 0), at(52, 2))), 0, api.ErrShape}, {do(t, overlay.Union, together(holes(4)), do(t, overlay.Union, at(50, 0), at(52, 2))), 0, api.ErrShape},
	} {
		if e := overlay.Check(c.r); e != api.OK {
			t.Errorf("%d: Check(%s) = %d", k, showSegs(c.r), e)
		}
		if l, e := overlay.Polygons(c.r); e != c.e || len(l) != c.n || e != api.OK && l != nil {
			t.Errorf("%d: Polygons(%s) = %s, %d", k, showSegs(c.r), showPolys(l), e)
		}
	}
}

// polygonEdges returns the sides of a ring in order, and reversed those of a square with the ring as its hole.
func polygonEdges(l []api.Point) []api.Segment {
	var r []api.Segment
	for k, p := range l {
		r = append(r, api.Segment{A: p, B: l[(k+1)%len(l)]})
	}
	slices.SortFunc(r, inOrder)
	return r
}

func reversed(ring []api.Segment, square string) []api.Segment {
	r := region(square)
	for _, s := range ring {
		r = append(r, api.Segment{A: s.B, B: s.A})
	}
	slices.SortFunc(r, inOrder)
	return r
}
