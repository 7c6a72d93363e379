package convex

import (
	"cmp"
	"slices"

	"viator/api"
	"viator/plane"
	"viator/polygon"
	"viator/rational"
)

// Sum returns the sums of the points of two sets. Its ring consists of the edges of both, in the order of their directions.
func Sum(a, b []api.Point) []api.Point {
	if len(a) == 0 || len(b) == 0 {
		return nil
	}
	steps := slices.Concat(ringSteps(a), ringSteps(b))
	slices.SortFunc(steps, byTurn)
	at := plane.Add(a[0], b[0])
	ring := []api.Point{at}
	for k, step := range steps {
		at = plane.Add(at, step)
		if k+1 == len(steps) {
			break // it is back
		}
		if byTurn(step, steps[k+1]) != 0 {
			ring = append(ring, at)
		}
	}
	return ring
}

// ringSteps returns the edges of a list as vectors.
func ringSteps(l []api.Point) []api.Point {
	var steps []api.Point
	for _, edge := range ringEdges(l) {
		if edge.A != edge.B {
			steps = append(steps, plane.Sub(edge.B, edge.A))
		}
	}
	return steps
}

// byTurn compares two vectors by their directions, in the order in which a ring has them from its least point on.
func byTurn(v, w api.Point) int {
	if order := cmp.Compare(run(v), run(w)); order != 0 {
		return order
	}
	return rational.Sign(plane.CrossProduct(w, v))
}

// run returns 0 for a vector that leads to a greater point, and 1 for one that leads to a lesser one.
func run(v api.Point) int {
	if plane.Compare(v, api.Point{}) > 0 {
		return 0
	}
	return 1
}

// Cut returns the part of a set that is to the left of a line.
func Cut(l []api.Point, line api.Segment) ([]api.Point, api.Errno) {
	if line.A == line.B {
		return nil, api.ErrZero
	}
	return hull(clip(l, leftOf(line))), api.OK
}

// leftOf returns a function that is positive to the left of a line, negative to its right, and proportional to the distance from it.
func leftOf(line api.Segment) func(p api.Point) api.Rat {
	way := plane.Sub(line.B, line.A)
	return func(p api.Point) api.Rat { return plane.CrossProduct(way, plane.Sub(p, line.A)) }
}

// clip returns a ring around that part of a convex ring at which a function is not negative. Points can occur in it several times.
func clip(l []api.Point, height func(p api.Point) api.Rat) []api.Point {
	if len(l) == 0 {
		return nil
	}
	var kept []api.Point
	from := height(l[0])
	for _, edge := range ringEdges(l) {
		to := height(edge.B)
		if rational.Sign(from) >= 0 {
			kept = append(kept, edge.A)
		}
		if rational.Sign(from)*rational.Sign(to) < 0 {
			r, _ := rational.Div(from, rational.Sub(from, to))
			kept = append(kept, plane.Divide(edge, r))
		}
		from = to
	}
	return kept
}

// Intersect returns the points that belong to both of two sets.
func Intersect(a, b []api.Point) []api.Point {
	for _, line := range sides(b) {
		a = clip(a, leftOf(line))
	}
	if len(b) == 0 {
		return nil
	}
	return hull(a)
}

// sides returns lines such that a set that is not empty consists of the points that are to the right of none of them.
func sides(l []api.Point) []api.Segment {
	if len(l) == 0 || len(l) > 2 {
		return ringEdges(l)
	}
	from, to := l[0], l[len(l)-1]
	along := plane.Sub(to, from)
	if from == to {
		along = plane.At(1, 0)
	}
	across := api.Point{X: along.Y, Y: rational.Neg(along.X)}
	return []api.Segment{
		{A: from, B: plane.Add(from, along)}, {A: from, B: plane.Sub(from, along)}, // its line, in both directions
		{A: from, B: plane.Add(from, across)}, {A: to, B: plane.Sub(to, across)}, // what its ends bound
	}
}

// Disk returns polygons within and around a disk.
func Disk(radius api.Rat, level int) (inner, outer []api.Point, e api.Errno) {
	if rational.Sign(radius) <= 0 || level < 1 || level > MaxLevel {
		return nil, nil, api.ErrRange
	}
	for k := range level {
		x, _ := rational.FromInts(level*level-k*k, level*level+k*k)
		y, _ := rational.FromInts(2*level*k, level*level+k*k)
		inner = append(inner, plane.Scale(api.Point{X: x, Y: y}, radius))
	}
	for k := range 3 * level {
		inner = append(inner, quarterTurn(inner[k]))
	}
	for _, edge := range ringEdges(inner) {
		outer = append(outer, tangentsMeet(edge.A, edge.B))
	}
	return hull(inner), hull(outer), api.OK
}

// quarterTurn returns a vector turned by a right angle counterclockwise.
func quarterTurn(p api.Point) api.Point { return api.Point{X: rational.Neg(p.Y), Y: p.X} }

// tangentsMeet returns the intersection of the tangents at two points of a circle around (0, 0), which are not opposite: it lies on the bisector of both.
func tangentsMeet(p, q api.Point) api.Point {
	square := plane.Dot(p, p)
	r, _ := rational.Div(square, rational.Add(square, plane.Dot(p, q)))
	return plane.Scale(plane.Add(p, q), r)
}

// Grow returns polygons within and around the points that are at most a distance away from a convex set.
func Grow(l []api.Point, radius api.Rat, level int) (inner, outer []api.Point, e api.Errno) {
	inner, outer, e = Disk(radius, level)
	if e != api.OK {
		return nil, nil, e
	}
	return Sum(l, inner), Sum(l, outer), api.OK
}

// Separation shows that two convex sets have a point in common, or that a line lies between them.
type Separation struct {
	Apart     bool
	Common    api.Point
	Direction api.Point
	Level     api.Rat
}

// Separate returns a separation of two convex sets. Their differences are a convex set, too: the one of the least length leads straight from one set to the other.
func Separate(a, b []api.Point) (Separation, api.Errno) {
	if len(a) == 0 || len(b) == 0 {
		return Separation{}, api.ErrEmpty
	}
	if common := Intersect(a, b); len(common) > 0 {
		return Separation{Common: common[0]}, api.OK
	}
	direction := nearest(Sum(b, opposite(a)))
	lastOfA, _ := Support(a, direction)
	firstOfB, _ := Support(b, plane.Scale(direction, rational.FromInt(-1)))
	level := plane.Dot(plane.Divide(api.Segment{A: lastOfA, B: firstOfB}, half), direction)
	return Separation{Apart: true, Direction: direction, Level: level}, api.OK
}

// half is the fraction 1/2.
var half = api.Rat{Num: api.Int{Mag: "\x01"}, Den: api.Int{Mag: "\x02"}}

// opposite returns the set of the opposites of the points of a set.
func opposite(l []api.Point) []api.Point {
	var points []api.Point
	for _, p := range l {
		points = append(points, plane.Sub(api.Point{}, p))
	}
	return hull(points)
}

// nearest returns the point on the ring of a set that is nearest to (0, 0).
func nearest(l []api.Point) api.Point {
	var best api.Point
	for k, edge := range ringEdges(l) {
		p, _ := plane.Nearest(api.Point{}, edge)
		if k == 0 || rational.Compare(plane.Dot(p, p), plane.Dot(best, best)) < 0 {
			best = p
		}
	}
	return best
}

// CheckSeparation returns the error of what is no separation of two convex sets.
func CheckSeparation(a, b []api.Point, s Separation) api.Errno {
	if len(a) == 0 || len(b) == 0 {
		return api.ErrEmpty
	}
	if plane.Check(s.Common) != api.OK || plane.Check(s.Direction) != api.OK || rational.Check(s.Level) != api.OK {
		return api.ErrCertificate
	}
	proved := s == Separation{Common: s.Common} && Locate(a, s.Common) != polygon.Outside && Locate(b, s.Common) != polygon.Outside
	if s.Apart {
		proved = s.Common == api.Point{} && allAre(-1, a, s) && allAre(1, b, s)
	}
	if !proved {
		return api.ErrCertificate
	}
	return api.OK
}

// allAre tells whether the scalar products of all points with the direction of a separation are less than the level (order -1), or all are greater (order 1).
func allAre(order int, l []api.Point, s Separation) bool {
	return !slices.ContainsFunc(l, func(p api.Point) bool {
		return rational.Compare(plane.Dot(p, s.Direction), s.Level) != order
	})
}
