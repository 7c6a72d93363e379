package movingregion_test

import (
	"math/rand"
	"slices"
	"strings"

	"viator/api"
	"viator/movingregion"
	"viator/notation"
	"viator/plane"
	"viator/rational"
	"viator/real"
)

// The strings of the tests are those of package notation.
var (
	rat      = notation.Rat
	re       = notation.Real
	reals    = notation.Reals
	in       = notation.Interval
	list     = notation.Period
	show     = notation.ShowPeriod
	pair     = notation.Pair
	showPair = notation.ShowPair
	wrong    = notation.Wrong
)

// shape returns the shape with rings of vertices like "0:0 4,1/2:0 0:4,-4 | 1:1 2:1 1:2": of each vertex both coordinates.
func shape(s string) movingregion.Shape {
	var rings [][]api.Line
	for _, text := range strings.Split(s, "|") {
		var ring []api.Line
		for _, word := range strings.Fields(text) {
			x, y, _ := strings.Cut(word, ":")
			var v api.Line
			v.X0, v.X1 = pair(x)
			v.Y0, v.Y1 = pair(y)
			ring = append(ring, v)
		}
		rings = append(rings, ring)
	}
	return movingregion.Shape{Outer: rings[0], Holes: rings[1:]}
}

func showShape(f movingregion.Shape) string {
	var rings []string
	for _, ring := range allRings(f) {
		var words []string
		for _, v := range ring {
			words = append(words, showPair(v.X0, v.X1)+":"+showPair(v.Y0, v.Y1))
		}
		rings = append(rings, strings.Join(words, " "))
	}
	return strings.Join(rings, " | ")
}

func allRings(f movingregion.Shape) [][]api.Line {
	return append([][]api.Line{f.Outer}, f.Holes...)
}

// poly returns the polygon of a shape that rests.
func poly(s string) api.Polygon { return polygonOf(shape(s), api.Rat{}) }

func showPoly(p api.Polygon) string {
	still := func(ring []api.Point) []api.Line {
		var lines []api.Line
		for _, v := range ring {
			lines = append(lines, api.Line{X0: v.X, Y0: v.Y})
		}
		return lines
	}
	f := movingregion.Shape{Outer: still(p.Outer)}
	for _, hole := range p.Holes {
		f.Holes = append(f.Holes, still(hole))
	}
	return showShape(f)
}

// polygonOf returns the polygon of a shape at an instant.
func polygonOf(f movingregion.Shape, t api.Rat) api.Polygon {
	var rings [][]api.Point
	for _, ring := range allRings(f) {
		var points []api.Point
		for _, v := range ring {
			points = append(points, api.Point{X: rational.Add(v.X0, rational.Mul(v.X1, t)), Y: rational.Add(v.Y0, rational.Mul(v.Y1, t))})
		}
		rings = append(rings, points)
	}
	return api.Polygon{Outer: rings[0], Holes: rings[1:]}
}

// units returns the units that a string like "[0 1) 0:0 1:0 0:1,1; [1 1] 0:0 3:0 3:3" shows.
func units(s string) []api.RegionUnit {
	var l []api.RegionUnit
	for _, part := range strings.Split(s, "; ") {
		if words := strings.Fields(part); len(words) > 2 {
			f := shape(strings.Join(words[2:], " "))
			l = append(l, api.RegionUnit{In: in(words[0] + " " + words[1]), Outer: f.Outer, Holes: f.Holes})
		}
	}
	return l
}

func showUnits(l []api.RegionUnit) string {
	var parts []string
	for _, u := range l {
		parts = append(parts, notation.ShowInterval(u.In)+" "+showShape(shapeOf(u)))
	}
	return strings.Join(parts, "; ")
}

func shapeOf(u api.RegionUnit) movingregion.Shape {
	return movingregion.Shape{Outer: u.Outer, Holes: u.Holes}
}

// number is p + q*s, where s is the root of the R of an instant (with a minus, if Neg is set). All coordinates at an instant, and what is computed of them, are such numbers; they are computed without the packages above real.
type number struct{ p, q, r api.Rat }

func (a number) minus(b number) number {
	return number{rational.Sub(a.p, b.p), rational.Sub(a.q, b.q), a.r}
}

func (a number) times(b number) number {
	p := rational.Add(rational.Mul(a.p, b.p), rational.Mul(rational.Mul(a.q, b.q), a.r))
	return number{p, rational.Add(rational.Mul(a.p, b.q), rational.Mul(a.q, b.p)), a.r}
}

func (a number) real() api.Real {
	x, e := real.Make(a.p, a.q, a.r)
	if e != api.OK {
		panic(e)
	}
	return x
}

func (a number) sign() int { return real.Sign(a.real()) }

// spot is a point at an instant.
type spot struct{ x, y number }

func spotOf(v api.Line, t api.Real) spot {
	sign := rat("1")
	if t.Neg {
		sign = rat("-1")
	}
	coordinate := func(c0, c1 api.Rat) number {
		return number{rational.Add(c0, rational.Mul(c1, t.P)), rational.Mul(c1, sign), t.R}
	}
	return spot{coordinate(v.X0, v.X1), coordinate(v.Y0, v.Y1)}
}

func ringOf(ring []api.Line, t api.Real) []spot {
	var spots []spot
	for _, v := range ring {
		spots = append(spots, spotOf(v, t))
	}
	return spots
}

func (a spot) minus(b spot) spot { return spot{a.x.minus(b.x), a.y.minus(b.y)} }

func cross(a, b spot) number { return a.x.times(b.y).minus(a.y.times(b.x)) }

// compare compares two points by their coordinates.
func compare(a, b spot) int {
	if d := a.x.minus(b.x).sign(); d != 0 {
		return d
	}
	return a.y.minus(b.y).sign()
}

func less(a, b spot) spot {
	if compare(a, b) < 0 {
		return a
	}
	return b
}

func greater(a, b spot) spot {
	if compare(a, b) > 0 {
		return a
	}
	return b
}

// common returns how many points the segments from a to b and from c to d have in common: 0, 1, or 2 if there are many. The parameters of the point that their lines have in common lie between 0 and 1.
func common(a, b, c, d spot) int {
	u, v, w := b.minus(a), d.minus(c), c.minus(a)
	det := cross(u, v)
	if det.sign() != 0 {
		for _, n := range []number{cross(w, v), cross(w, u)} {
			if n.sign()*det.sign() < 0 || n.minus(det).sign()*det.sign() > 0 {
				return 0
			}
		}
		return 1
	}
	if cross(w, u).sign() != 0 || cross(w, v).sign() != 0 {
		return 0
	}
	from, to := greater(less(a, b), less(c, d)), less(greater(a, b), greater(c, d))
	return 1 - compare(from, to)
}

// within tells whether a point is inside of a ring, on which it is not: a ray upwards crosses the ring an odd number of times.
func within(p spot, ring []spot) bool {
	crossings := 0
	for k, a := range ring {
		b := ring[(k+1)%len(ring)]
		if compare(a, b) > 0 {
			a, b = b, a
		}
		if a.x.minus(p.x).sign() <= 0 && p.x.minus(b.x).sign() < 0 && cross(b.minus(a), p.minus(a)).sign() < 0 {
			crossings++
		}
	}
	return crossings%2 == 1
}

// simple tells whether a ring is simple, by the words of layer 8.
func simple(ring []spot) bool {
	n := len(ring)
	if n < 3 {
		return false
	}
	for k := range n {
		if compare(ring[k], ring[(k+1)%n]) == 0 {
			return false
		}
	}
	for k := range n {
		for m := range k {
			meet := common(ring[k], ring[(k+1)%n], ring[m], ring[(m+1)%n])
			follow := m+1 == k || m == (k+1)%n
			if follow && meet > 1 || !follow && meet > 0 {
				return false
			}
		}
	}
	return true
}

// apart tells whether no edge of a ring meets one of another one.
func apart(r, s []spot) bool {
	for k := range r {
		for m := range s {
			if common(r[k], r[(k+1)%len(r)], s[m], s[(m+1)%len(s)]) > 0 {
				return false
			}
		}
	}
	return true
}

// valid tells whether the polygon of a shape at an instant is valid, by the words of layer 8.
func valid(f movingregion.Shape, t api.Real) bool {
	var rings [][]spot
	for _, ring := range allRings(f) {
		rings = append(rings, ringOf(ring, t))
		if !simple(rings[len(rings)-1]) {
			return false
		}
	}
	outside := func(ring []spot) func(p spot) bool { return func(p spot) bool { return !within(p, ring) } }
	for k, hole := range rings[1:] {
		if !apart(hole, rings[0]) || slices.ContainsFunc(hole, outside(rings[0])) {
			return false
		}
		for n, other := range rings[1:] {
			if n != k && (!apart(hole, other) || slices.ContainsFunc(hole, func(p spot) bool { return within(p, other) })) {
				return false
			}
		}
	}
	return true
}

// critical returns the instants at which a sign of a shape can change: of the turns of all triples of vertices, and of the differences of all coordinates.
func critical(f movingregion.Shape) []api.Real {
	var all []api.Real
	add := func(q api.Quad) {
		roots, _ := real.Roots(q)
		all = append(all, roots...)
	}
	difference := func(a, b api.Line) (x, y api.Quad) {
		return api.Quad{C0: rational.Sub(a.X0, b.X0), C1: rational.Sub(a.X1, b.X1)}, api.Quad{C0: rational.Sub(a.Y0, b.Y0), C1: rational.Sub(a.Y1, b.Y1)}
	}
	vertices := slices.Concat(allRings(f)...)
	for k, a := range vertices {
		for n, b := range vertices[:k] {
			x, y := difference(a, b)
			add(x)
			add(y)
			for _, c := range vertices[:n] {
				u, v := difference(c, b)
				sum := func(terms ...api.Rat) api.Rat {
					var total api.Rat
					for k := 0; k < len(terms); k += 4 {
						total = rational.Add(total, rational.Sub(rational.Mul(terms[k], terms[k+1]), rational.Mul(terms[k+2], terms[k+3])))
					}
					return total
				}
				add(api.Quad{C0: sum(x.C0, v.C0, y.C0, u.C0), C1: sum(x.C0, v.C1, y.C0, u.C1, x.C1, v.C0, y.C1, u.C0), C2: sum(x.C1, v.C1, y.C1, u.C1)})
			}
		}
	}
	return all
}

// cells divides an interval at instants into single instants and open intervals; each comes with one of its instants.
func cells(i api.Interval, at []api.Real) (parts []api.Interval, picks []api.Real) {
	inside := slices.DeleteFunc(append(slices.Clone(at), i.From, i.To), func(t api.Real) bool {
		return real.Compare(t, i.From) < 0 || real.Compare(t, i.To) > 0
	})
	slices.SortFunc(inside, real.Compare)
	inside = slices.Compact(inside)
	for k, t := range inside {
		if k > 0 {
			between, _ := real.Between(inside[k-1], t)
			parts = append(parts, api.Interval{From: inside[k-1], To: t, OpenFrom: true, OpenTo: true})
			picks = append(picks, real.FromRat(between))
		}
		if t == i.From && i.OpenFrom || t == i.To && i.OpenTo {
			continue
		}
		parts, picks = append(parts, api.Interval{From: t, To: t}), append(picks, t)
	}
	return parts, picks
}

// firstBad returns what FirstBad must return, found by asking every cell.
func firstBad(f movingregion.Shape, i api.Interval) (t api.Real, itself, bad bool) {
	parts, picks := cells(i, critical(f))
	for k, pick := range picks {
		if !valid(f, pick) {
			return parts[k].From, !parts[k].OpenFrom, true
		}
	}
	return api.Real{}, false, false
}

// random returns shapes with small coordinates and velocities: rings that seldom are valid for long, and squares with a hole or two in them whose vertices move a little.
func random(seed int64, count int) []movingregion.Shape {
	r := rand.New(rand.NewSource(seed))
	around := func(x, y, far, fast int) api.Line {
		some := func(n int) api.Rat { return rational.FromInt(r.Intn(2*n+1) - n) }
		return api.Line{X0: rational.Add(rational.FromInt(x), some(far)), X1: some(fast), Y0: rational.Add(rational.FromInt(y), some(far)), Y1: some(fast)}
	}
	var l []movingregion.Shape
	for n := range count {
		var f movingregion.Shape
		if n%2 == 0 {
			for range 3 + r.Intn(3) {
				f.Outer = append(f.Outer, around(0, 0, 3, 2))
			}
		} else {
			f.Outer = []api.Line{around(-9, -9, 1, 1), around(9, -9, 1, 1), around(9, 9, 1, 1), around(-9, 9, 1, 1)}
			for h := range 1 + r.Intn(2) {
				x := 6*h - 3
				f.Holes = append(f.Holes, []api.Line{around(x, 0, 2, 2), around(x+2, 2, 2, 2), around(x-2, 2, 2, 2)})
			}
		}
		l = append(l, f)
	}
	return l
}

// samples contains moving regions in normal form.
func samples() []string {
	return []string{
		"", "[0 2] 0:0 4:0 0,2:4", "[0 1) 0:0 4:0 0:4,-4; (1 2] 0:0 4:0 0:4,-4", "[3 3] 0:0 1:0 0:1", "[0+sqrt(2) 0+sqrt(2)] 0:0 1,1:0 0:1,1", "(-5 5) 0,1:0,-1 1,1:0,-1 1,1:1,-1 0,1:1,-1", "[0 3] -9:-9 9:-9 9:9 -9:9 | 1,1:0 2,1:0 1,1:2", "[0 1] 0:0 4:0 0:4; (1 0+sqrt(3)] 0:0 3,1:0 0:3,1; [5 6) -1/2:0,1 0:-3,1 1/3:0,1",
		"(0 1) -9,-1:-9 9:-9 9:9 -9:9 | 1,1:0 2,1:0 1,1:2 | -4:1 -4:2 -3:1,1/2; [1 1] 0:0 1:0 0:1; (1 7/2) 0:0 0:1,1 1,1:0", "[0 0+sqrt(2)) 0:0 0:2,-1 2,-1:0; (0+sqrt(2) 2) 0:0 0:2,-1 2,-1:0",
	}
}

// each calls a function with all samples, and pairs with all pairs of them.
func each(f func(l []api.RegionUnit)) {
	for _, s := range samples() {
		l := units(s)
		if showUnits(l) != s {
			panic(s)
		}
		f(l)
	}
}

func pairs(f func(a, b []api.RegionUnit)) {
	each(func(a []api.RegionUnit) {
		each(func(b []api.RegionUnit) { f(a, b) })
	})
}

func contains(i api.Interval, t api.Real) bool {
	from, to := real.Compare(i.From, t), real.Compare(t, i.To)
	return (from < 0 || from == 0 && !i.OpenFrom) && (to < 0 || to == 0 && !i.OpenTo)
}

// at returns the unit of a moving region to which an instant belongs.
func at(l []api.RegionUnit, t api.Real) (api.RegionUnit, bool) {
	for _, u := range l {
		if contains(u.In, t) {
			return u, true
		}
	}
	return api.RegionUnit{}, false
}

// positions returns where the vertices of a moving region are at an instant, as text, or nothing if it is not defined.
func positions(l []api.RegionUnit, t api.Real) string {
	u, ok := at(l, t)
	if !ok {
		return ""
	}
	var rings []string
	for _, ring := range allRings(shapeOf(u)) {
		var words []string
		for _, s := range ringOf(ring, t) {
			words = append(words, real.Print(s.x.real())+":"+real.Print(s.y.real()))
		}
		rings = append(rings, strings.Join(words, " "))
	}
	return strings.Join(rings, " | ")
}

// instants returns the ends of the units of moving regions, some instants beside, and one between each two neighbouring ones, in order.
func instants(lists ...[]api.RegionUnit) []api.Real {
	special := reals("-10 -1/3 2-sqrt(1/5) 7/5 0+sqrt(5) 10")
	for _, l := range lists {
		for _, u := range l {
			special = append(special, u.In.From, u.In.To)
		}
	}
	_, picks := cells(api.Interval{From: re("-11"), To: re("11")}, special)
	return picks
}

// is tells whether a moving region is in normal form, valid, and has at each of some instants the vertices that a function tells.
func is(l []api.RegionUnit, instants []api.Real, want func(t api.Real) string) bool {
	for _, t := range instants {
		if positions(l, t) != want(t) {
			return false
		}
	}
	return movingregion.Check(l) == api.OK
}

// square returns a square with a corner at a point.
func square(x, y, side int) api.Polygon {
	return api.Polygon{Outer: []api.Point{plane.At(x, y), plane.At(x+side, y), plane.At(x+side, y+side), plane.At(x, y+side)}}
}

// same tells whether two polygons have the same vertices in the same order.
func same(p, q api.Polygon) bool {
	return slices.Equal(p.Outer, q.Outer) && slices.EqualFunc(p.Holes, q.Holes, slices.Equal[[]api.Point])
}

// area2 returns twice the area of a shape at an instant.
func area2(f movingregion.Shape, t api.Real) api.Real {
	zero := number{r: t.R}
	total := zero
	for k, ring := range allRings(f) {
		spots, area := ringOf(ring, t), zero
		for n, a := range spots {
			area = area.minus(cross(spots[(n+1)%len(spots)], a))
		}
		if isHole := k > 0; isHole == (area.sign() > 0) {
			area = zero.minus(area)
		}
		total = total.minus(zero.minus(area))
	}
	return total.real()
}
