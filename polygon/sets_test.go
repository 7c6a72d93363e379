package polygon_test

import (
	"slices"
	"testing"

	"viator/api"
	"viator/integer"
	"viator/plane"
	"viator/polygon"
	"viator/rational"
)

var halves = api.Rat{Num: integer.FromInt(1), Den: integer.FromInt(2)}

// samples returns a point in each part of the plane that the edges of polygons make, between upright lines through all of their vertices and crossings.
func samples(l ...api.Polygon) []api.Point {
	var edges []api.Segment
	for _, p := range l {
		edges = append(edges, polygon.Edges(p)...)
	}
	var xs []api.Rat
	for _, s := range edges {
		xs = append(xs, s.A.X)
		for _, other := range edges {
			if m := plane.Meet(s, other); m.Kind != plane.Apart {
				xs = append(xs, m.Common.A.X)
			}
		}
	}
	var points []api.Point
	for _, x := range middles(xs) {
		var ys []api.Rat
		for _, s := range edges {
			if rational.Compare(s.A.X, x) != rational.Compare(s.B.X, x) {
				r, _ := rational.Div(rational.Sub(x, s.A.X), rational.Sub(s.B.X, s.A.X))
				ys = append(ys, plane.Divide(s, r).Y)
			}
		}
		for _, y := range middles(ys) {
			points = append(points, api.Point{X: x, Y: y})
		}
	}
	return points
}

// middles returns the means of neighbouring numbers.
func middles(l []api.Rat) []api.Rat {
	slices.SortFunc(l, rational.Compare)
	l = slices.Compact(l)
	var out []api.Rat
	for k := 1; k < len(l); k++ {
		out = append(out, rational.Mul(rational.Add(l[k-1], l[k]), halves))
	}
	return out
}

// contains, touches and equal find by the samples what polygons have in common.
func contains(p, q api.Polygon) bool {
	return !slices.ContainsFunc(samples(p, q), func(at api.Point) bool {
		return polygon.Locate(q, at) == polygon.Inside && polygon.Locate(p, at) != polygon.Inside
	})
}

func touches(p, q api.Polygon) bool {
	for _, s := range polygon.Edges(p) {
		for _, other := range polygon.Edges(q) {
			if plane.Meet(s, other).Kind != plane.Apart {
				return true
			}
		}
	}
	return slices.ContainsFunc(samples(p, q), func(at api.Point) bool {
		return polygon.Locate(q, at) == polygon.Inside && polygon.Locate(p, at) == polygon.Inside
	})
}

// variants returns a polygon, and others that are the same set: with the rings from other vertices on, in other directions and orders, and with further vertices on their edges.
func variants(p api.Polygon) []api.Polygon {
	turned := func(l []api.Point, by int) []api.Point { return slices.Concat(l[by:], l[:by]) }
	reversed := func(l []api.Point) []api.Point {
		l = slices.Clone(l)
		slices.Reverse(l)
		return l
	}
	split := func(l []api.Point) []api.Point { // two further vertices on the last edge
		last := api.Segment{A: l[len(l)-1], B: l[0]}
		return append(slices.Clone(l), plane.Divide(last, rat("1/3")), plane.Divide(last, rat("4/5")))
	}
	change := func(f func(l []api.Point) []api.Point) api.Polygon {
		q := api.Polygon{Outer: f(p.Outer)}
		for _, hole := range p.Holes {
			q.Holes = append([][]api.Point{f(hole)}, q.Holes...)
		}
		return q
	}
	return []api.Polygon{p, change(slices.Clone[[]api.Point]), change(reversed), change(split), change(func(l []api.Point) []api.Point { return turned(l, 1) }), change(func(l []api.Point) []api.Point { return turned(split(reversed(l)), 2) })}
}

// collection returns valid polygons: some that lie to each other in a special way, and random ones.
func collection() []api.Polygon {
	const square, hole = "0 0 4 0 4 4 0 4", "1 1 2 1 2 2 1 2"
	l := []api.Polygon{
		poly(square), poly(square, hole), poly(square, "1 1 3 1 3 3 1 3"), poly(hole), poly("1 1 3 1 3 3 1 3"), poly("1 1 3 1 3 3 1 3", "3/2 3/2 7/4 3/2 7/4 7/4"), poly("4/3 4/3 5/3 4/3 3/2 5/3"), poly("-1 -1 5 -1 5 5 -1 5", square), poly("-1 -1 5 -1 5 5 -1 5", hole, "3 3 7/2 3 3 7/2"),
		poly("4 4 5 4 5 5"), poly("4 1 5 1 5 2"), poly("2 2 3 2 3 3 2 3"), poly("3 1 4 1 4 3 3 3"), poly("0 0 4 0 4 1 1 1 1 3 4 3 4 4 0 4"), poly("2 3/2 4 3/2 4 5/2 2 5/2"), poly("0 0 4 4 0 4"), poly("0 0 4 0 4 4"), poly("1/2 1/2 5/2 1/2 5/2 5/2 1/2 5/2", "3/4 3/4 9/4 3/4 9/4 9/4 3/4 9/4"),
		poly("6 0 10 0 10 4 6 4", "7 1 8 1 7 2", "9 1 9 2 17/2 3/2"), poly("0 0 2 1 4 0 2 4"), poly("2 1 0 0 4 0"),
	}
	for _, r := range rings(5, 24, 4) {
		l = append(l, api.Polygon{Outer: fromPairs(r)})
	}
	return l
}

func TestP8_5Canonical(t *testing.T) {
	for _, c := range []struct{ p, want api.Polygon }{
		{poly("0 4 2 4 4 4 4 0 0 0"), poly("0 0 4 0 4 4 0 4")}, {poly("0 0 1 0 2 0 3 0 3 3 2 2 1 1"), poly("0 0 3 0 3 3")}, {poly("2 0 3 0 3 3 0 0 1 0"), poly("0 0 3 0 3 3")}, {poly("1 1 0 1 0 0 1 0"), poly("0 0 1 0 1 1 0 1")}, {poly("0 0 -1 1 -1 -1"), poly("-1 -1 0 0 -1 1")},
		{poly("0 0 9 0 9 9 0 9", "5 5 6 5 5 6", "1 6 2 6 1 7", "3 1 2 1 1 1 1 2"), poly("0 0 9 0 9 9 0 9", "1 1 1 2 3 1", "1 6 1 7 2 6", "5 5 5 6 6 5")},
		{poly("0 0 9 0 9 9 0 9", "2 4 3 4 3 5", "2 6 3 6 3 7", "1 1 8 1 8 2"), poly("0 0 9 0 9 9 0 9", "1 1 8 2 8 1", "2 4 3 5 3 4", "2 6 3 7 3 6")},
	} {
		if got := polygon.Canonical(c.p); !equalPoly(got, c.want) {
			t.Errorf("Canonical(%s) = %s", showPoly(c.p), showPoly(got))
		}
	}
	for _, p := range collection() {
		form := polygon.Canonical(p)
		if e := polygon.Check(form); e != api.OK {
			t.Errorf("Canonical(%s) = %s: %d", showPoly(p), showPoly(form), e)
		}
		for k, l := range append([][]api.Point{form.Outer}, form.Holes...) {
			if sign := rational.Sign(polygon.RingArea2(l)); (k == 0) != (sign > 0) {
				t.Errorf("the ring %d of %s has the wrong direction", k, showPoly(form))
			}
			if k > 1 && plane.Compare(form.Holes[k-2][0], l[0]) >= 0 {
				t.Errorf("the holes of %s are not in order", showPoly(form))
			}
			for n, v := range l {
				if n > 0 && plane.Compare(l[0], v) >= 0 || plane.Orientation(v, l[(n+1)%len(l)], l[(n+2)%len(l)]) == 0 {
					t.Errorf("the ring %d of %s does not begin with its least vertex, or has one too many", k, showPoly(form))
				}
			}
		}
		for _, q := range variants(p) {
			if other := polygon.Canonical(q); !equalPoly(other, form) {
				t.Errorf("Canonical(%s) = %s, not %s", showPoly(q), showPoly(other), showPoly(form))
			}
		}
		for _, at := range append(samples(p, form), slices.Concat(p.Outer, form.Outer)...) {
			if polygon.Locate(p, at) != polygon.Locate(form, at) {
				t.Errorf("%s and its canonical form do not both contain %s", showPoly(p), show(at))
			}
		}
	}
}

func TestP8_5Equal(t *testing.T) {
	l := collection()
	for _, p := range l {
		for _, q := range l {
			if want := contains(p, q) && contains(q, p); polygon.Equal(p, q) != want {
				t.Errorf("Equal(%s, %s) is not %v", showPoly(p), showPoly(q), want)
			}
		}
		for _, q := range variants(p) {
			if !polygon.Equal(p, q) || !polygon.Equal(q, p) {
				t.Errorf("Equal(%s, %s) is false", showPoly(p), showPoly(q))
			}
		}
	}
}

func TestP8_6Inner(t *testing.T) {
	l := append(collection(), poly("0 0 4 0 4 4 0 4", "1/1000 1/1000 1/500 1/1000 1/1000 1/500"), poly("0 0 1000000000000 1 2000000000000 2000000000001/1000000000000"), poly("0 5 1 0 2 5 3 0 4 5"))
	for _, r := range rings(6, 300, 6) {
		l = append(l, api.Polygon{Outer: fromPairs(r)})
	}
	for _, p := range l {
		at := polygon.Inner(p)
		if polygon.Locate(p, at) != polygon.Inside {
			t.Errorf("Inner(%s) = %s", showPoly(p), show(at))
		}
		for _, q := range variants(p) {
			if polygon.Inner(q) != at {
				t.Errorf("Inner(%s) is not that of %s", showPoly(q), showPoly(p))
			}
		}
	}
}

func TestP8_6Sets(t *testing.T) {
	l := collection()
	contained, touched := 0, 0
	for _, p := range l {
		for _, q := range l {
			c, m := contains(p, q), touches(p, q)
			if polygon.Contains(p, q) != c {
				t.Errorf("Contains(%s; %s) is not %v", showPoly(p), showPoly(q), c)
			}
			if polygon.Touches(p, q) != m {
				t.Errorf("Touches(%s; %s) is not %v", showPoly(p), showPoly(q), m)
			}
			if c {
				contained++
			}
			if m {
				touched++
			}
		}
	}
	if contained < 100 || touched < 100 || touched == len(l)*len(l) {
		t.Errorf("%d pairs contain, and %d touch one another", contained, touched)
	}
}

func TestP8_6Examples(t *testing.T) {
	square, holed := poly("0 0 4 0 4 4 0 4"), poly("0 0 4 0 4 4 0 4", "1 1 3 1 3 3 1 3")
	for _, c := range []struct {
		p, q              api.Polygon
		contains, touches bool
	}{
		{square, holed, true, true}, {holed, square, false, true}, {holed, poly("1 1 3 1 3 3 1 3"), false, true}, {holed, poly("3/2 3/2 2 3/2 2 2"), false, false}, {holed, poly("1 1 2 3/2 2 2"), false, true}, {holed, poly("0 0 1 1 0 1"), true, true}, {holed, poly("0 0 3/2 1 0 1"), true, true}, {holed, poly("0 0 3/2 5/4 0 1"), false, true}, {holed, poly("0 0 4 0 4 4 0 4", "1/2 1/2 7/2 1/2 7/2 7/2 1/2 7/2"), true, true}, {holed, poly("0 0 4 0 4 4 0 4", "3/2 3/2 2 3/2 2 2"), false, true},
		{square, poly("4 4 5 4 5 5"), false, true}, {square, poly("4 0 5 0 5 5 4 4"), false, true}, {square, poly("5 0 6 0 6 5"), false, false}, {square, poly("0 1 4 2 0 3"), true, true}, {square, poly("0 1 5 2 0 3"), false, true}, {poly("0 0 4 0 4 1 1 1 1 3 4 3 4 4 0 4"), poly("0 0 4 0 4 4 0 4"), false, true}, {poly("0 0 4 0 4 1 1 1 1 3 4 3 4 4 0 4"), poly("2 3/2 3 3/2 3 2"), false, false}, {poly("0 0 4 0 2 1 4 2 0 2"), poly("0 0 4 0 4 2 0 2"), false, true},
		{poly("0 0 9 0 9 9 0 9", "1 1 8 1 8 8 1 8"), poly("2 2 7 2 7 7 2 7", "3 3 6 3 6 6 3 6"), false, false}, {poly("0 0 9 0 9 9 0 9", "3 3 6 3 6 6 3 6"), poly("1 1 8 1 8 8 1 8", "2 2 7 2 7 7 2 7"), true, true}, {poly("0 0 9 0 9 9 0 9", "2 2 7 2 7 7 2 7"), poly("1 1 8 1 8 8 1 8", "3 3 6 3 6 6 3 6"), false, true},
	} {
		if polygon.Contains(c.p, c.q) != c.contains || polygon.Touches(c.p, c.q) != c.touches || polygon.Touches(c.q, c.p) != c.touches {
			t.Errorf("Contains or Touches of %s and %s", showPoly(c.p), showPoly(c.q))
		}
	}
}

func TestP8_7(t *testing.T) {
	p := poly("0 0 4 0 4 4", "2 1 3 1 3 3/2")
	if q := polygon.Translate(p, point("-1/2 1/3")); !equalPoly(q, poly("-1/2 1/3 7/2 1/3 7/2 13/3", "3/2 4/3 5/2 4/3 5/2 11/6")) {
		t.Errorf("Translate = %s", showPoly(q))
	}
	by := point("1000000000000000000000/3 -5/7")
	for _, p := range collection() {
		q := polygon.Translate(p, by)
		if polygon.Check(q) != api.OK || polygon.Area2(q) != polygon.Area2(p) || !equalPoly(polygon.Translate(q, plane.Sub(api.Point{}, by)), p) {
			t.Errorf("Translate(%s) = %s", showPoly(p), showPoly(q))
		}
		for _, at := range append(samples(p), p.Outer...) {
			if polygon.Locate(p, at) != polygon.Locate(q, plane.Add(at, by)) {
				t.Errorf("the location of %s in %s does not move along", show(at), showPoly(p))
			}
		}
	}
}

func TestP8_8(t *testing.T) {
	l := collection()
	for _, p := range l {
		if rational.Sign(polygon.Area2(p)) <= 0 || polygon.Area2(p) != polygon.Area2(polygon.Canonical(p)) {
			t.Errorf("the area of %s", showPoly(p))
		}
		for _, q := range l {
			if !polygon.Contains(p, q) {
				continue
			}
			if rational.Compare(polygon.Area2(p), polygon.Area2(q)) < 0 || polygon.Contains(q, p) != polygon.Equal(p, q) || !polygon.Touches(p, q) {
				t.Errorf("%s contains %s", showPoly(p), showPoly(q))
			}
			for _, r := range l {
				if polygon.Contains(q, r) && !polygon.Contains(p, r) {
					t.Errorf("%s contains %s, but not %s", showPoly(p), showPoly(q), showPoly(r))
				}
			}
		}
	}
}

func TestP8_8Arguments(t *testing.T) {
	p := poly("0 4 2 4 4 4 4 0 0 0", "3 3 3 2 2 3", "1 1 2 1 1 2")
	q, before := poly("1 1 2 1 1 2"), showPoly(p)
	polygon.Check(p)
	polygon.Equal(p, q)
	polygon.Inner(p)
	polygon.Contains(p, q)
	polygon.Touches(p, q)
	form, moved, edges := polygon.Canonical(p), polygon.Translate(p, api.Point{}), polygon.Edges(p)
	for _, l := range [][]api.Point{form.Outer, form.Holes[0], form.Holes[1], moved.Outer, moved.Holes[0], moved.Holes[1]} {
		clear(l)
		clear(l[len(l):cap(l)])
	}
	clear(edges)
	if showPoly(p) != before || showPoly(q) != "1 1 2 1 1 2" {
		t.Errorf("an argument is %s; %s", showPoly(p), showPoly(q))
	}
}

// Nothing is specified for polygons that are not valid, but no function may panic or go on for ever.
func TestP1NotValid(t *testing.T) {
	many := make([]api.Point, 40)
	for k := range many {
		many[k] = plane.At(k*k%7, k*k*k%11)
	}
	l := [][]api.Point{nil, ring("1 1"), ring("1 1 1 1"), ring("0 0 2 2"), ring("0 0 2 2 2 0 0 2"), ring("0 0 1 0 2 0"), ring("3 3 3 3 3 3"), many}
	for _, r := range odd() {
		l = append(l, []api.Point{{X: r}, {Y: r}, {X: r, Y: r}, plane.At(1, 5)})
	}
	var all []api.Polygon
	for k, outer := range l {
		all = append(all, api.Polygon{Outer: outer}, api.Polygon{Outer: outer, Holes: [][]api.Point{l[(k+3)%len(l)], l[(5*k+1)%len(l)]}})
	}
	for k, p := range all {
		at := append(polygon.Edges(p), api.Segment{})[0].A
		polygon.Check(p)
		polygon.CheckRing(p.Outer)
		polygon.RingArea2(p.Outer)
		polygon.Area2(p)
		polygon.Locate(p, at)
		polygon.LocateRing(p.Outer, plane.At(1, 1))
		polygon.Box(p)
		polygon.Canonical(p)
		polygon.Inner(p)
		polygon.Translate(p, at)
		for n := 0; n < len(all); n += 1 + k%3 {
			polygon.Equal(p, all[n])
			polygon.Contains(p, all[n])
			polygon.Touches(p, all[n])
		}
	}
}
