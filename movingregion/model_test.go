package movingregion_test

import (
	"math/rand"
	"slices"
	"strings"

	"viator/api"
	"viator/lists"
	"viator/movingregion"
	"viator/notation"
	"viator/plane"
	"viator/rational"
	"viator/real"
	"viator/surd"
)

// The strings of the tests are those of package notation.
var (
	rat       = notation.Rat
	re        = notation.Real
	reals     = notation.Reals
	in        = notation.Interval
	list      = notation.Period
	show      = notation.ShowPeriod
	wrong     = notation.Wrong
	poly      = notation.Polygon
	units     = notation.RegionUnits
	showUnits = notation.ShowRegionUnits
)

// shape returns the shape with some rings.
func shape(s string) movingregion.Shape {
	rings := notation.Rings(s)
	return movingregion.Shape{Outer: rings[0], Holes: rings[1:]}
}

func showShape(f movingregion.Shape) string { return notation.ShowRings(allRings(f)) }

func allRings(f movingregion.Shape) [][]api.Line {
	return append([][]api.Line{f.Outer}, f.Holes...)
}

func showPoly(p api.Polygon) string {
	still := func(ring []api.Point) []api.Line {
		return lists.Convert(ring, func(v api.Point) api.Line { return api.Line{X0: v.X, Y0: v.Y} })
	}
	return notation.ShowRings(lists.Convert(append([][]api.Point{p.Outer}, p.Holes...), still))
}

// polygonOf returns the polygon of a shape at an instant.
func polygonOf(f movingregion.Shape, t api.Rat) api.Polygon {
	var rings [][]api.Point
	for _, ring := range allRings(f) {
		var points []api.Point
		for _, v := range ring {
			points = append(points, api.Point{X: rational.Add(v.X0, rational.Mul(v.X1, t)), Y: rational.Add(v.Y0, rational.Mul(v.Y1, t))})
		}
		rings = append(rings, points)
	}
	return api.Polygon{Outer: rings[0], Holes: rings[1:]}
}

func shapeOf(u api.RegionUnit) movingregion.Shape {
	return movingregion.Shape{Outer: u.Outer, Holes: u.Holes}
}

// The positions at an instant are those of package surd.
type spot = surd.Spot

var (
	cross    = surd.Cross
	compare  = surd.Compare
	within   = surd.Within
	contains = surd.Contains
)

func ringOf(ring []api.Line, t api.Real) []spot {
	return lists.Convert(ring, func(v api.Line) spot { return surd.Position(v, t) })
}

func less(a, b spot) spot {
	if compare(a, b) < 0 {
		return a
	}
	return b
}

func greater(a, b spot) spot {
	if compare(a, b) > 0 {
		return a
	}
	return b
}

// common returns how many points the segments from a to b and from c to d have in common: 0, 1, or 2 if there are many. The parameters of the point that their lines have in common lie between 0 and 1.
func common(a, b, c, d spot) int {
	u, v, w := b.Minus(a), d.Minus(c), c.Minus(a)
	det := cross(u, v)
	if det.Sign() != 0 {
		for _, n := range []surd.Number{cross(w, v), cross(w, u)} {
			if n.Sign()*det.Sign() < 0 || n.Minus(det).Sign()*det.Sign() > 0 {
				return 0
			}
		}
		return 1
	}
	if cross(w, u).Sign() != 0 || cross(w, v).Sign() != 0 {
		return 0
	}
	from, to := greater(less(a, b), less(c, d)), less(greater(a, b), greater(c, d))
	return 1 - compare(from, to)
}

// simple tells whether a ring is simple, by the words of layer 8.
func simple(ring []spot) bool {
	n := len(ring)
	if n < 3 {
		return false
	}
	for k := range n {
		if compare(ring[k], ring[(k+1)%n]) == 0 {
			return false
		}
	}
	for k := range n {
		for m := range k {
			meet := common(ring[k], ring[(k+1)%n], ring[m], ring[(m+1)%n])
			follow := m+1 == k || m == (k+1)%n
			if follow && meet > 1 || !follow && meet > 0 {
				return false
			}
		}
	}
	return true
}

// apart tells whether no edge of a ring meets one of another one.
func apart(r, s []spot) bool {
	for k := range r {
		for m := range s {
			if common(r[k], r[(k+1)%len(r)], s[m], s[(m+1)%len(s)]) > 0 {
				return false
			}
		}
	}
	return true
}

// valid tells whether the polygon of a shape at an instant is valid, by the words of layer 8.
func valid(f movingregion.Shape, t api.Real) bool {
	var rings [][]spot
	for _, ring := range allRings(f) {
		rings = append(rings, ringOf(ring, t))
		if !simple(rings[len(rings)-1]) {
			return false
		}
	}
	outside := func(ring []spot) func(p spot) bool { return func(p spot) bool { return !within(p, ring) } }
	for k, hole := range rings[1:] {
		if !apart(hole, rings[0]) || slices.ContainsFunc(hole, outside(rings[0])) {
			return false
		}
		for n, other := range rings[1:] {
			if n != k && (!apart(hole, other) || slices.ContainsFunc(hole, func(p spot) bool { return within(p, other) })) {
				return false
			}
		}
	}
	return true
}

// critical returns the instants at which a sign of a shape can change: of the turns of all triples of vertices, and of the differences of all coordinates.
func critical(f movingregion.Shape) []api.Real {
	var all []api.Real
	add := func(q api.Quad) {
		roots, _ := real.Roots(q)
		all = append(all, roots...)
	}
	difference := func(a, b api.Line) (x, y api.Quad) {
		return api.Quad{C0: rational.Sub(a.X0, b.X0), C1: rational.Sub(a.X1, b.X1)}, api.Quad{C0: rational.Sub(a.Y0, b.Y0), C1: rational.Sub(a.Y1, b.Y1)}
	}
	vertices := slices.Concat(allRings(f)...)
	for k, a := range vertices {
		for n, b := range vertices[:k] {
			x, y := difference(a, b)
			add(x)
			add(y)
			for _, c := range vertices[:n] {
				u, v := difference(c, b)
				sum := func(terms ...api.Rat) api.Rat {
					var total api.Rat
					for k := 0; k < len(terms); k += 4 {
						total = rational.Add(total, rational.Sub(rational.Mul(terms[k], terms[k+1]), rational.Mul(terms[k+2], terms[k+3])))
					}
					return total
				}
				add(api.Quad{C0: sum(x.C0, v.C0, y.C0, u.C0), C1: sum(x.C0, v.C1, y.C0, u.C1, x.C1, v.C0, y.C1, u.C0), C2: sum(x.C1, v.C1, y.C1, u.C1)})
			}
		}
	}
	return all
}

// cells divides an interval at instants into single instants and open intervals; each comes with one of its instants.
func cells(i api.Interval, at []api.Real) (parts []api.Interval, picks []api.Real) {
	inside := slices.DeleteFunc(append(slices.Clone(at), i.From, i.To), func(t api.Real) bool {
		return real.Compare(t, i.From) < 0 || real.Compare(t, i.To) > 0
	})
	slices.SortFunc(inside, real.Compare)
	inside = slices.Compact(inside)
	for k, t := range inside {
		if k > 0 {
			between, _ := real.Between(inside[k-1], t)
			parts = append(parts, api.Interval{From: inside[k-1], To: t, OpenFrom: true, OpenTo: true})
			picks = append(picks, real.FromRat(between))
		}
		if t == i.From && i.OpenFrom || t == i.To && i.OpenTo {
			continue
		}
		parts, picks = append(parts, api.Interval{From: t, To: t}), append(picks, t)
	}
	return parts, picks
}

// firstBad returns what FirstBad must return, found by asking every cell.
func firstBad(f movingregion.Shape, i api.Interval) (t api.Real, itself, bad bool) {
	parts, picks := cells(i, critical(f))
	for k, pick := range picks {
		if !valid(f, pick) {
			return parts[k].From, !parts[k].OpenFrom, true
		}
	}
	return api.Real{}, false, false
}

// random returns shapes with small coordinates and velocities: rings that seldom are valid for long, and squares with a hole or two in them whose vertices move a little.
func random(seed int64, count int) []movingregion.Shape {
	r := rand.New(rand.NewSource(seed))
	around := func(x, y, far, fast int) api.Line {
		some := func(n int) api.Rat { return rational.FromInt(r.Intn(2*n+1) - n) }
		return api.Line{X0: rational.Add(rational.FromInt(x), some(far)), X1: some(fast), Y0: rational.Add(rational.FromInt(y), some(far)), Y1: some(fast)}
	}
	var l []movingregion.Shape
	for n := range count {
		var f movingregion.Shape
		if n%2 == 0 {
			for range 3 + r.Intn(3) {
				f.Outer = append(f.Outer, around(0, 0, 3, 2))
			}
		} else {
			f.Outer = []api.Line{around(-9, -9, 1, 1), around(9, -9, 1, 1), around(9, 9, 1, 1), around(-9, 9, 1, 1)}
			for h := range 1 + r.Intn(2) {
				x := 6*h - 3
				f.Holes = append(f.Holes, []api.Line{around(x, 0, 2, 2), around(x+2, 2, 2, 2), around(x-2, 2, 2, 2)})
			}
		}
		l = append(l, f)
	}
	return l
}

// samples contains moving regions in normal form.
func samples() []string {
	return []string{
		"", "[0 2] 0:0 4:0 0,2:4", "[0 1) 0:0 4:0 0:4,-4; (1 2] 0:0 4:0 0:4,-4", "[3 3] 0:0 1:0 0:1", "[0+sqrt(2) 0+sqrt(2)] 0:0 1,1:0 0:1,1", "(-5 5) 0,1:0,-1 1,1:0,-1 1,1:1,-1 0,1:1,-1", "[0 3] -9:-9 9:-9 9:9 -9:9 | 1,1:0 2,1:0 1,1:2", "[0 1] 0:0 4:0 0:4; (1 0+sqrt(3)] 0:0 3,1:0 0:3,1; [5 6) -1/2:0,1 0:-3,1 1/3:0,1",
		"(0 1) -9,-1:-9 9:-9 9:9 -9:9 | 1,1:0 2,1:0 1,1:2 | -4:1 -4:2 -3:1,1/2; [1 1] 0:0 1:0 0:1; (1 7/2) 0:0 0:1,1 1,1:0", "[0 0+sqrt(2)) 0:0 0:2,-1 2,-1:0; (0+sqrt(2) 2) 0:0 0:2,-1 2,-1:0",
	}
}

// each calls a function with all samples, and pairs with all pairs of them.
func each(f func(l []api.RegionUnit)) {
	for _, s := range samples() {
		l := units(s)
		if showUnits(l) != s {
			panic(s)
		}
		f(l)
	}
}

func pairs(f func(a, b []api.RegionUnit)) {
	each(func(a []api.RegionUnit) {
		each(func(b []api.RegionUnit) { f(a, b) })
	})
}

// at returns the unit of a moving region to which an instant belongs.
func at(l []api.RegionUnit, t api.Real) (api.RegionUnit, bool) {
	for _, u := range l {
		if contains(u.In, t) {
			return u, true
		}
	}
	return api.RegionUnit{}, false
}

// positions returns where the vertices of a moving region are at an instant, as text, or nothing if it is not defined.
func positions(l []api.RegionUnit, t api.Real) string {
	u, ok := at(l, t)
	if !ok {
		return ""
	}
	var rings []string
	for _, ring := range allRings(shapeOf(u)) {
		var words []string
		for _, s := range ringOf(ring, t) {
			words = append(words, real.Print(s.X.Real())+":"+real.Print(s.Y.Real()))
		}
		rings = append(rings, strings.Join(words, " "))
	}
	return strings.Join(rings, " | ")
}

// instants returns the ends of the units of moving regions, some instants beside, and one between each two neighbouring ones, in order.
func instants(lists ...[]api.RegionUnit) []api.Real {
	special := reals("-10 -1/3 2-sqrt(1/5) 7/5 0+sqrt(5) 10")
	for _, l := range lists {
		for _, u := range l {
			special = append(special, u.In.From, u.In.To)
		}
	}
	_, picks := cells(api.Interval{From: re("-11"), To: re("11")}, special)
	return picks
}

// is tells whether a moving region is in normal form, valid, and has at each of some instants the vertices that a function tells.
func is(l []api.RegionUnit, instants []api.Real, want func(t api.Real) string) bool {
	for _, t := range instants {
		if positions(l, t) != want(t) {
			return false
		}
	}
	return movingregion.Check(l) == api.OK
}

// square returns a square with a corner at a point.
func square(x, y, side int) api.Polygon {
	return api.Polygon{Outer: []api.Point{plane.At(x, y), plane.At(x+side, y), plane.At(x+side, y+side), plane.At(x, y+side)}}
}

// same tells whether two polygons have the same vertices in the same order.
func same(p, q api.Polygon) bool {
	return slices.Equal(p.Outer, q.Outer) && slices.EqualFunc(p.Holes, q.Holes, slices.Equal[[]api.Point])
}

// area2 returns twice the area of a shape at an instant.
func area2(f movingregion.Shape, t api.Real) api.Real {
	var zero surd.Number
	total := zero
	for k, ring := range allRings(f) {
		spots, area := ringOf(ring, t), zero
		for n, a := range spots {
			area = area.Minus(cross(spots[(n+1)%len(spots)], a))
		}
		if isHole := k > 0; isHole == (area.Sign() > 0) {
			area = zero.Minus(area)
		}
		total = total.Minus(zero.Minus(area))
	}
	return total.Real()
}
