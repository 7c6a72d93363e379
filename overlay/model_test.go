package overlay_test

import (
	"math/rand"
	"slices"
	"strings"
	"testing"

	"viator/api"
	"viator/overlay"
	"viator/plane"
	"viator/polygon"
	"viator/rational"
)

func rat(s string) api.Rat {
	r, e := rational.Parse(s)
	if e != api.OK {
		panic(s)
	}
	return r
}

// points returns the points whose coordinates stand in a string, and segs the segments between each two of them.
func points(s string) []api.Point {
	c := strings.Fields(s)
	var l []api.Point
	for k := 0; k < len(c); k += 2 {
		l = append(l, api.Point{X: rat(c[k]), Y: rat(c[k+1])})
	}
	return l
}

func segs(s string) []api.Segment {
	ends := points(s)
	var l []api.Segment
	for k := 0; k < len(ends); k += 2 {
		l = append(l, api.Segment{A: ends[k], B: ends[k+1]})
	}
	return l
}

// poly returns the polygon with rings of points, and region its border.
func poly(outer string, holes ...string) api.Polygon {
	p := api.Polygon{Outer: points(outer)}
	for _, hole := range holes {
		p.Holes = append(p.Holes, points(hole))
	}
	return p
}

func region(outer string, holes ...string) []api.Segment {
	r, e := overlay.FromPolygon(poly(outer, holes...))
	if e != api.OK {
		panic(outer)
	}
	return r
}

func show(l ...api.Point) string {
	var parts []string
	for _, p := range l {
		parts = append(parts, rational.Print(p.X)+" "+rational.Print(p.Y))
	}
	return strings.Join(parts, " ")
}

func showSegs(l []api.Segment) string {
	var parts []string
	for _, s := range l {
		parts = append(parts, show(s.A, s.B))
	}
	return strings.Join(parts, ", ")
}

// operation is one of the four, with what it does to truth values.
type operation struct {
	name string
	f    func(a, b []api.Segment) ([]api.Segment, api.Errno)
	of   func(a, b bool) bool
}

func operations() []operation {
	return []operation{
		{"Union", overlay.Union, func(a, b bool) bool { return a || b }},
		{"Intersect", overlay.Intersect, func(a, b bool) bool { return a && b }},
		{"Minus", overlay.Minus, func(a, b bool) bool { return a && !b }},
		{"Differ", overlay.Differ, func(a, b bool) bool { return a != b }},
	}
}

// do returns the result of an operation that has one.
func do(t *testing.T, f func(a, b []api.Segment) ([]api.Segment, api.Errno), a, b []api.Segment) []api.Segment {
	t.Helper()
	r, e := f(a, b)
	if e != api.OK {
		t.Fatalf("the operation on %s and %s: %d", showSegs(a), showSegs(b), e)
	}
	return r
}

// grid is a model of regions: square cells, each of which its diagonals divide into four triangles. A region is a set of triangles.
type grid struct {
	side int        // cells in each direction
	to   [6]api.Rat // X and Y are to[0] + to[1]*x + to[2]*y and to[3] + to[4]*x + to[5]*y
}

type set []bool

// grids returns grids of some size, in several positions: two are turned and sheared, and one is mirrored.
func grids(side int) []grid {
	var all []grid
	for _, s := range []string{"0 1 0 0 0 1", "1/3 1/2 -1/7 -5/2 2/3 1", "0 3 1/2 1/5 2 -1"} {
		g := grid{side: side}
		for k, word := range strings.Fields(s) {
			g.to[k] = rat(word)
		}
		all = append(all, g)
	}
	return all
}

// triangle returns the vertices of a triangle, counterclockwise.
func (g grid) triangle(k int) [3][2]int {
	x, y := k/4%g.side*2, k/4/g.side*2
	corners := [4][2]int{{x, y}, {x + 2, y}, {x + 2, y + 2}, {x, y + 2}}
	return [3][2]int{corners[k%4], corners[(k+1)%4], {x + 1, y + 1}}
}

func (g grid) point(p [2]int) api.Point {
	x, y := rational.FromInt(p[0]), rational.FromInt(p[1])
	row := func(c []api.Rat) api.Rat {
		return rational.Add(c[0], rational.Add(rational.Mul(c[1], x), rational.Mul(c[2], y)))
	}
	return api.Point{X: row(g.to[:3]), Y: row(g.to[3:])}
}

// scale returns by how much the grid's position multiplies areas, and whether it is mirrored.
func (g grid) scale() (by api.Rat, mirrored bool) {
	by = rational.Sub(rational.Mul(g.to[1], g.to[5]), rational.Mul(g.to[2], g.to[4]))
	return rational.Abs(by), rational.Sign(by) < 0
}

type way [2][2]int // from and to

// ways returns the sides of the triangles of a set that are no sides of two, with the set to the left, as long ones as possible.
func (g grid) ways(s set) []way {
	var all []way
	for k, in := range s {
		if !in {
			continue
		}
		t := g.triangle(k)
		for n := range t {
			from, to := t[n], t[(n+1)%3]
			if back := slices.Index(all, way{to, from}); back >= 0 {
				all = slices.Delete(all, back, back+1)
			} else {
				all = append(all, way{from, to})
			}
		}
	}
	for g.joinTwo(&all) {
	}
	return all
}

func (g grid) joinTwo(all *[]way) bool {
	for k, v := range *all {
		for n, w := range *all {
			if v[1] == w[0] && (v[1][0]-v[0][0])*(w[1][1]-v[0][1]) == (v[1][1]-v[0][1])*(w[1][0]-v[0][0]) {
				(*all)[k][1] = w[1]
				*all = slices.Delete(*all, n, n+1)
				return true
			}
		}
	}
	return false
}

// border returns the border of a set.
func (g grid) border(s set) []api.Segment {
	_, mirrored := g.scale()
	var all []api.Segment
	for _, w := range g.ways(s) {
		if mirrored {
			w[0], w[1] = w[1], w[0]
		}
		all = append(all, api.Segment{A: g.point(w[0]), B: g.point(w[1])})
	}
	slices.SortFunc(all, inOrder)
	return all
}

func inOrder(s, t api.Segment) int {
	if order := plane.Compare(s.A, t.A); order != 0 {
		return order
	}
	return plane.Compare(s.B, t.B)
}

// combine returns the set of an operation.
func (g grid) combine(a, b set, of func(a, b bool) bool) set {
	s := make(set, len(a))
	for k := range s {
		s[k] = of(a[k], b[k])
	}
	return s
}

// some returns a set with a border that is not too long: single triangles, rectangles, or both.
func (g grid) some(r *rand.Rand) set {
	s := make(set, 4*g.side*g.side)
	if r.Intn(3) > 0 {
		part := 2 + r.Intn(6)
		for k := range s {
			s[k] = r.Intn(part) == 0
		}
	}
	for range r.Intn(3) {
		x0, x1, y0, y1 := r.Intn(g.side), r.Intn(g.side), r.Intn(g.side), r.Intn(g.side)
		with := r.Intn(3) > 0
		for k := range s {
			if x, y := k/4%g.side, k/4/g.side; x0 <= x && x <= x1 && y0 <= y && y <= y1 {
				s[k] = with
			}
		}
	}
	if len(g.ways(s)) > overlay.MaxBorder {
		return g.some(r)
	}
	return s
}

// numbered returns the set of the bits of a number.
func (g grid) numbered(n int) set {
	s := make(set, 4*g.side*g.side)
	for k := range s {
		s[k] = n>>k&1 == 1
	}
	return s
}

// pairs calls a function with all pairs of regions of one cell, and random ones of more.
func pairs(f func(g grid, a, b set)) {
	r := rand.New(rand.NewSource(11))
	for side := 1; side <= 5; side++ {
		for _, g := range grids(side) {
			if side == 1 {
				for n := range 256 {
					f(g, g.numbered(n%16), g.numbered(n/16))
				}
				continue
			}
			for range 20 {
				f(g, g.some(r), g.some(r))
			}
		}
	}
}

// isBorder tells by the words of the definition whether segments are the border of a region.
func isBorder(r []api.Segment) bool {
	begun := map[api.Point]int{} // how many segments begin, less how many end
	for k, s := range r {
		begun[s.A]++
		begun[s.B]--
		if s.A == s.B || k > 0 && inOrder(r[k-1], s) >= 0 || slices.ContainsFunc(r, func(t api.Segment) bool { return t.A == s.B && leadsOn(s, t) }) {
			return false
		}
	}
	for _, n := range begun { // otherwise it depends on the ray what is inside
		if n != 0 {
			return false
		}
	}
	for _, s := range r {
		way := plane.Sub(s.B, s.A)
		left := api.Point{X: rational.Neg(way.Y), Y: way.X}
		for _, p := range middles(s, r) {
			on := 0
			for _, t := range r {
				if plane.OnSegment(p, t) {
					on++
				}
			}
			if on > 1 || !isInside(p, left, s, r) || isInside(p, plane.Scale(left, rat("-1")), s, r) {
				return false
			}
		}
	}
	return true
}

func leadsOn(s, t api.Segment) bool {
	return plane.Orientation(s.A, s.B, t.B) == 0 && rational.Sign(plane.Dot(plane.Sub(s.B, s.A), plane.Sub(t.B, t.A))) > 0
}

// middles returns a point of each part of a segment between the points that it has in common with others.
func middles(s api.Segment, r []api.Segment) []api.Point {
	cuts := []api.Point{s.A, s.B}
	for _, t := range r {
		if m := plane.Meet(s, t); m.Kind != plane.Apart {
			cuts = append(cuts, m.Common.A, m.Common.B)
		}
	}
	slices.SortFunc(cuts, plane.Compare)
	cuts = slices.Compact(cuts)
	var all []api.Point
	for k := 1; k < len(cuts); k++ {
		all = append(all, plane.Divide(api.Segment{A: cuts[k-1], B: cuts[k]}, rat("1/2")))
	}
	return all
}

// isInside tells whether a ray from a point of a segment, which leaves it at a right angle, crosses an odd number of other segments. It is thought to be moved a little along the segment, so that it meets no end.
func isInside(p, way api.Point, own api.Segment, r []api.Segment) bool {
	odd := false
	for _, t := range r {
		along := plane.Sub(t.B, t.A)
		a, b := rational.Sign(plane.CrossProduct(way, plane.Sub(t.A, p))) > 0, rational.Sign(plane.CrossProduct(way, plane.Sub(t.B, p))) > 0
		if t == own || a == b {
			continue
		}
		if u, _ := rational.Div(plane.CrossProduct(plane.Sub(t.A, p), along), plane.CrossProduct(way, along)); rational.Sign(u) > 0 {
			odd = !odd
		}
	}
	return odd
}

// locate finds by the words of the definition where a point is.
func locate(r []api.Segment, p api.Point) int {
	far := plane.Add(p, plane.At(1000000, 1009))
	for _, s := range r {
		if plane.OnSegment(p, s) {
			return overlay.Border
		}
	}
	for slices.ContainsFunc(r, func(s api.Segment) bool {
		return plane.Orientation(p, far, s.A) == 0 || plane.Orientation(p, far, s.B) == 0
	}) {
		far = plane.Add(far, plane.At(0, 1))
	}
	place := overlay.Outside
	for _, s := range r {
		if plane.Meet(s, api.Segment{A: p, B: far}).Kind == plane.Cross {
			place = -place
		}
	}
	return place
}

// samples returns a point in each part of the plane that segments make, between upright lines through all of their ends and crossings.
func samples(lists ...[]api.Segment) []api.Point {
	l := slices.Concat(lists...)
	var xs []api.Rat
	for _, s := range l {
		xs = append(xs, s.A.X, s.B.X)
		for _, t := range l {
			if m := plane.Meet(s, t); m.Kind != plane.Apart {
				xs = append(xs, m.Common.A.X)
			}
		}
	}
	var all []api.Point
	for _, x := range means(xs) {
		var ys []api.Rat
		for _, s := range l {
			if rational.Compare(s.A.X, x) != rational.Compare(s.B.X, x) {
				r, _ := rational.Div(rational.Sub(x, s.A.X), rational.Sub(s.B.X, s.A.X))
				ys = append(ys, plane.Divide(s, r).Y)
			}
		}
		for _, y := range means(ys) {
			all = append(all, api.Point{X: x, Y: y})
		}
	}
	return all
}

// means returns the means of neighbouring numbers.
func means(l []api.Rat) []api.Rat {
	slices.SortFunc(l, rational.Compare)
	l = slices.Compact(l)
	var out []api.Rat
	for k := 1; k < len(l); k++ {
		out = append(out, rational.Mul(rational.Add(l[k-1], l[k]), rat("1/2")))
	}
	return out
}

// polygons returns some that lie to each other in a special way, and random ones.
func polygons(count int) []api.Polygon {
	const square = "0 0 4 0 4 4 0 4"
	l := []api.Polygon{
		poly(square), poly(square, "1 1 2 1 2 2 1 2"), poly("1 1 2 1 2 2 1 2"), poly("-1 -1 5 -1 5 5 -1 5", square), poly("4 0 8 0 8 4 4 4"), poly("4 1 8 1 8 3 4 3"), poly("2 2 6 2 6 6 2 6"), poly("4 4 5 4 5 5"), poly("0 0 4 4 0 4"), poly("0 0 4 0 4 1 1 1 1 3 4 3 4 4 0 4"), poly("2 -1 5 2 2 5 -1 2"), poly("0 0 9 1 9 2"), poly("1/2 1/3 7/2 5/3 2/3 13/4"), poly("20 20 21 20 21 21"),
	}
	r := rand.New(rand.NewSource(12))
	for len(l) < count {
		var p api.Polygon
		for range 3 + r.Intn(4) {
			p.Outer = append(p.Outer, api.Point{X: rational.FromInt(r.Intn(7)), Y: rat([]string{"0", "1", "2", "5/2", "3", "10/3", "4", "5"}[r.Intn(8)])})
		}
		if polygon.Check(p) == api.OK {
			l = append(l, p)
		}
	}
	return l
}
