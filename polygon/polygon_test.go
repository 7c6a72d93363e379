package polygon_test

import (
	"math/rand"
	"slices"
	"strings"
	"testing"

	"viator/api"
	"viator/integer"
	"viator/plane"
	"viator/polygon"
	"viator/rational"
)

func rat(s string) api.Rat {
	r, e := rational.Parse(s)
	if e != api.OK {
		panic(s)
	}
	return r
}

// ring returns the points whose coordinates stand in a string.
func ring(s string) []api.Point {
	c := strings.Fields(s)
	var l []api.Point
	for k := 0; k < len(c); k += 2 {
		l = append(l, api.Point{X: rat(c[k]), Y: rat(c[k+1])})
	}
	return l
}

func point(s string) api.Point { return ring(s)[0] }

// poly returns the polygon whose rings stand in strings, the outer one first.
func poly(outer string, holes ...string) api.Polygon {
	p := api.Polygon{Outer: ring(outer)}
	for _, hole := range holes {
		p.Holes = append(p.Holes, ring(hole))
	}
	return p
}

func show(l ...api.Point) string {
	var parts []string
	for _, p := range l {
		parts = append(parts, rational.Print(p.X)+" "+rational.Print(p.Y))
	}
	return strings.Join(parts, " ")
}

func showPoly(p api.Polygon) string {
	parts := []string{show(p.Outer...)}
	for _, hole := range p.Holes {
		parts = append(parts, show(hole...))
	}
	return strings.Join(parts, "; ")
}

// equalPoly compares two polygons vertex by vertex.
func equalPoly(p, q api.Polygon) bool {
	return slices.Equal(p.Outer, q.Outer) && slices.EqualFunc(p.Holes, q.Holes, slices.Equal[[]api.Point])
}

// pair is a point with small coordinates. What is computed with pairs is what results are compared with.
type pair struct{ x, y int }

func fromPairs(l []pair) []api.Point {
	var out []api.Point
	for _, p := range l {
		out = append(out, plane.At(p.x, p.y))
	}
	return out
}

func turn(a, b, c pair) int { return (b.x-a.x)*(c.y-a.y) - (b.y-a.y)*(c.x-a.x) }

// isOn tells whether a point lies on the segment from a to b.
func isOn(p, a, b pair) bool {
	return turn(a, b, p) == 0 && (p.x-a.x)*(p.x-b.x) <= 0 && (p.y-a.y)*(p.y-b.y) <= 0
}

func opposite(m, n int) bool { return m < 0 && n > 0 || m > 0 && n < 0 }

// meet tells whether two segments have a common point.
func meet(a, b, c, d pair) bool {
	return isOn(a, c, d) || isOn(b, c, d) || isOn(c, a, b) || isOn(d, a, b) || opposite(turn(a, b, c), turn(a, b, d)) && opposite(turn(c, d, a), turn(c, d, b))
}

// isSimple tells whether a ring is simple.
func isSimple(l []pair) bool {
	n := len(l)
	if n < 3 {
		return false
	}
	for k := range n {
		a, b, c := l[k], l[(k+1)%n], l[(k+2)%n]
		if a == b || turn(a, b, c) == 0 && (a.x-b.x)*(c.x-b.x)+(a.y-b.y)*(c.y-b.y) > 0 {
			return false
		}
		for m := k + 2; m < n && m < k+n-1; m++ {
			if meet(a, b, l[m], l[(m+1)%n]) {
				return false
			}
		}
	}
	return true
}

// locate says where a point is by the crossings of a long segment that passes no vertex.
func locate(l []pair, p pair) int {
	far := pair{p.x + 1000003, p.y + 1}
	place := polygon.Outside
	for k, a := range l {
		b := l[(k+1)%len(l)]
		if isOn(p, a, b) {
			return polygon.Border
		}
		if meet(a, b, p, far) {
			place = -place
		}
	}
	return place
}

// lists calls a function with all lists of n points of the grid from 0 to most.
func lists(n, most int, f func(l []pair)) {
	l := make([]pair, n)
	var choose func(k int)
	choose = func(k int) {
		if k == n {
			f(l)
			return
		}
		for x := range most + 1 {
			for y := range most + 1 {
				l[k] = pair{x, y}
				choose(k + 1)
			}
		}
	}
	choose(0)
}

// rings returns simple rings with random vertices from 0 to most.
func rings(seed int64, count, most int) [][]pair {
	r := rand.New(rand.NewSource(seed))
	var out [][]pair
	for len(out) < count {
		l := make([]pair, 3+r.Intn(6))
		for k := range l {
			l[k] = pair{r.Intn(most + 1), r.Intn(most + 1)}
		}
		if isSimple(l) {
			out = append(out, l)
		}
	}
	return out
}

// odd contains fractions that are not canonical.
func odd() []api.Rat {
	return []api.Rat{{Num: api.Int{Neg: true}}, {Num: api.Int{Mag: "\x00\x01"}}, {Num: integer.FromInt(1), Den: integer.FromInt(1)}, {Num: integer.FromInt(2), Den: integer.FromInt(4)}, {Num: integer.FromInt(1), Den: integer.FromInt(-2)}, {Den: integer.FromInt(3)}}
}

const thirteen = "0 0 1 0 2 0 3 0 4 0 5 0 6 0 7 0 8 0 9 0 9 9 5 9 0 9"

func TestP8_1CheckRing(t *testing.T) {
	for _, c := range []struct {
		l string
		e api.Errno
	}{
		{"0 0 4 0 4 4 0 4", api.OK}, {"0 4 4 4 4 0 0 0", api.OK}, {"0 0 1/3 0 0 1/7", api.OK}, {"0 0 2 0 4 0 4 4", api.OK}, {strings.TrimSuffix(thirteen, " 0 9"), api.OK}, {thirteen, api.ErrLimit}, {thirteen + " 0 0 0 0", api.ErrLimit},
		{"", api.ErrShape}, {"1 1", api.ErrShape}, {"0 0 1 1", api.ErrShape}, {"0 0 2 2 2 0 0 2", api.ErrShape}, {"0 0 0 0 1 0 1 1", api.ErrShape}, {"0 0 1 0 1 1 0 0", api.ErrShape}, {"0 0 1 0 2 0", api.ErrShape}, {"0 0 4 0 2 0 2 2", api.ErrShape}, {"4 0 2 2 0 0 2 0 1 0", api.ErrShape}, {"0 0 4 0 4 4 2 0", api.ErrShape}, {"0 0 4 0 4 4 2 0 0 4", api.ErrShape},
		{"0 0 2 1 4 0 2 1 2 3", api.ErrShape}, {"0 0 4 0 4 4 2 4 2 1 1 1 1 3 3 3 3 4 0 4", api.ErrShape}, {"0 0 1000000000000 1 2000000000000 2", api.ErrShape}, {"0 0 1000000000000 1 2000000000000 2000000000001/1000000000000", api.OK},
	} {
		if e := polygon.CheckRing(ring(c.l)); e != c.e {
			t.Errorf("CheckRing(%s) = %d, not %d", c.l, e, c.e)
		}
	}
	for _, r := range odd() {
		for _, l := range []string{"", "0 0 1 0 1 1", "0 0 2 2 2 0 0 2", thirteen} {
			for _, wrong := range []api.Point{{X: r}, {Y: r}} {
				if e := polygon.CheckRing(append(ring(l), wrong)); e != api.ErrForm {
					t.Errorf("CheckRing of %s and %v = %d", l, wrong, e)
				}
			}
		}
	}
}

func TestP8_1CheckRingOnGrid(t *testing.T) {
	valid := 0
	check := func(l []pair) {
		want := api.ErrShape
		if isSimple(l) {
			want, valid = api.OK, valid+1
		}
		if e := polygon.CheckRing(fromPairs(l)); e != want {
			t.Errorf("CheckRing(%v) = %d, not %d", l, e, want)
		}
	}
	lists(3, 2, check)
	lists(4, 2, check)
	r := rand.New(rand.NewSource(1))
	for range 20000 {
		l := make([]pair, 5+r.Intn(3))
		for k := range l {
			l[k] = pair{r.Intn(5), r.Intn(5)}
		}
		check(l)
	}
	if valid < 1000 {
		t.Errorf("only %d rings are simple", valid)
	}
}

func TestP8_1Check(t *testing.T) {
	const square, hole = "0 0 4 0 4 4 0 4", "1 1 2 1 2 2 1 2"
	wide := "0 0 20 0 20 20 0 20"
	for _, c := range []struct {
		p api.Polygon
		e api.Errno
	}{
		{poly(square), api.OK}, {poly(square, hole), api.OK}, {poly(square, "1 2 2 2 2 1 1 1"), api.OK}, {poly(square, hole, "3 3 3 2 2 3"), api.OK}, {poly(wide, "1 1 2 1 1 2", "4 1 5 1 4 2", "1 4 2 4 1 5"), api.OK}, {poly("0 0 9 0 9 9 5 9 5 1 4 1 4 9 0 9", "1 1 3 1 3 8", "6 1 8 1 8 8"), api.OK},
		{poly(""), api.ErrShape}, {poly("", hole), api.ErrShape}, {poly("0 0 2 2 2 0 0 2", hole, hole, hole, hole), api.ErrShape}, {poly(thirteen, hole, hole, hole, hole), api.ErrLimit}, {poly(wide, "1 1 2 1 1 2", "4 1 5 1 4 2", "1 4 2 4 1 5", "4 4 5 4 4 5"), api.ErrLimit}, {poly(square, "1 1", hole, hole, hole), api.ErrLimit},
		{poly(square, "1 1 2 2"), api.ErrShape}, {poly(square, ""), api.ErrShape}, {poly(square, hole, "1 1 2 2"), api.ErrShape}, {poly(square, hole, hole, "5 5 6 6"), api.ErrShape}, {poly(square, "8 8 9 9 9 8", "1 1 2 2"), api.ErrShape}, {poly(wide, hole, thirteen), api.ErrLimit}, {poly(wide, "1 1 2 2", thirteen), api.ErrShape},
		{poly(square, "0 2 1 1 1 2"), api.ErrOverlap}, {poly(square, "0 0 1 1 1 2"), api.ErrOverlap}, {poly(square, "5 5 6 5 6 6"), api.ErrOverlap}, {poly(square, "1 1 6 1 1 2"), api.ErrOverlap}, {poly(square, square), api.ErrOverlap}, {poly(square, "-1 -1 9 -1 9 9 -1 9"), api.ErrOverlap}, {poly("0 0 9 0 9 9 5 9 5 1 4 1 4 9 0 9", "1 8 8 8 1 7"), api.ErrOverlap},
		{poly(square, hole, "2 2 3 2 3 3"), api.ErrOverlap}, {poly(square, hole, "3 1 2 3/2 3 2"), api.ErrOverlap}, {poly(square, "1 1 3 1 3 3 1 3", hole), api.ErrOverlap}, {poly(wide, hole, "1/2 1/2 3 1/2 3 3 1/2 3"), api.ErrOverlap}, {poly(wide, "1/2 1/2 3 1/2 3 3 1/2 3", "5/4 5/4 7/4 5/4 7/4 7/4"), api.ErrOverlap}, {poly(wide, "5/4 5/4 7/4 5/4 7/4 7/4", "8 8 9 8 9 9", "1/2 1/2 3 1/2 3 3 1/2 3"), api.ErrOverlap}, {poly(square, hole, hole), api.ErrOverlap}, {poly(square, hole, "1 3/2 3/2 1 3 3"), api.ErrOverlap},
		{poly(wide, "1 1 2 1 1 2", "4 1 5 1 4 2", "5 1 6 1 6 2"), api.ErrOverlap}, {poly(wide, "1 1 2 1 1 2", "4 1 5 1 4 2", "19 19 20 20 19 18"), api.ErrOverlap},
	} {
		if e := polygon.Check(c.p); e != c.e {
			t.Errorf("Check(%s) = %d, not %d", showPoly(c.p), e, c.e)
		}
	}
	for _, r := range odd() {
		wrong := append(ring(hole), api.Point{X: r})
		for _, c := range []struct {
			p api.Polygon
			e api.Errno
		}{
			{api.Polygon{Outer: wrong, Holes: [][]api.Point{nil, nil, nil, nil}}, api.ErrForm}, {api.Polygon{Outer: ring(square), Holes: [][]api.Point{wrong, nil, nil, nil}}, api.ErrLimit}, {api.Polygon{Outer: ring(square), Holes: [][]api.Point{wrong, nil}}, api.ErrForm},
			{api.Polygon{Outer: ring(square), Holes: [][]api.Point{nil, wrong}}, api.ErrShape}, {api.Polygon{Outer: ring(square), Holes: [][]api.Point{ring(square), wrong}}, api.ErrForm},
		} {
			if e := polygon.Check(c.p); e != c.e {
				t.Errorf("Check(%v) = %d, not %d", c.p, e, c.e)
			}
		}
	}
}

// Random triangles in a ring that is not convex: the words of the definition, with small integers.
func TestP8_1CheckOnGrid(t *testing.T) {
	outer := []pair{{0, 0}, {9, 0}, {9, 9}, {5, 9}, {5, 3}, {4, 3}, {4, 9}, {0, 9}}
	edgesMeet := func(l, m []pair) bool {
		for k := range l {
			for n := range m {
				if meet(l[k], l[(k+1)%len(l)], m[n], m[(n+1)%len(m)]) {
					return true
				}
			}
		}
		return false
	}
	within := func(l, m []pair) bool {
		return slices.ContainsFunc(l, func(p pair) bool { return locate(m, p) == polygon.Inside })
	}
	r := rand.New(rand.NewSource(2))
	valid := 0
	for range 6000 {
		holes := make([][]pair, 2)
		for k := range holes {
			x, y := r.Intn(9), r.Intn(9)
			for len(holes[k]) == 0 || !isSimple(holes[k]) {
				holes[k] = []pair{{x, y}, {x + r.Intn(4), y + r.Intn(4)}, {x + r.Intn(4), y + r.Intn(4)}}
			}
		}
		want := api.OK
		for _, hole := range holes {
			if edgesMeet(outer, hole) || slices.ContainsFunc(hole, func(p pair) bool { return locate(outer, p) != polygon.Inside }) {
				want = api.ErrOverlap
			}
		}
		if edgesMeet(holes[0], holes[1]) || within(holes[0], holes[1]) || within(holes[1], holes[0]) {
			want = api.ErrOverlap
		}
		if want == api.OK {
			valid++
		}
		p := api.Polygon{Outer: fromPairs(outer), Holes: [][]api.Point{fromPairs(holes[0]), fromPairs(holes[1])}}
		if e := polygon.Check(p); e != want {
			t.Errorf("Check(%s) = %d, not %d", showPoly(p), e, want)
		}
	}
	if valid < 50 {
		t.Errorf("only %d polygons are valid", valid)
	}
}

func TestP8_2(t *testing.T) {
	for _, c := range []struct{ l, want string }{
		{"", "0"}, {"3 4", "0"}, {"0 0 5 7", "0"}, {"0 0 4 0 4 4 0 4", "32"}, {"0 4 4 4 4 0 0 0", "-32"}, {"0 0 0 2 2 0", "-4"}, {"0 0 2 2 2 0 0 2", "0"}, {"1/2 1/3 5/2 1/3 1/2 4/3", "2"}, {"1 1 1 1 1 1", "0"}, {"0 0 1 0 1 1 0 1 0 0 1 0 1 1 0 1", "4"}, {"0 0 1000000000000 0 0 1/1000000000000", "1"},
	} {
		if a := polygon.RingArea2(ring(c.l)); a != rat(c.want) {
			t.Errorf("RingArea2(%s) = %s", c.l, rational.Print(a))
		}
	}
	for _, c := range []struct {
		p    api.Polygon
		want string
	}{
		{poly("0 0 4 0 4 4 0 4"), "32"}, {poly("0 4 4 4 4 0 0 0"), "32"}, {poly("0 0 4 0 4 4 0 4", "1 1 2 1 2 2 1 2"), "30"}, {poly("0 4 4 4 4 0 0 0", "1 1 2 1 2 2 1 2"), "30"}, {poly("0 0 4 0 4 4 0 4", "1 2 2 2 2 1 1 1"), "30"}, {poly("0 0 4 0 4 4 0 4", "1 1 2 1 2 2 1 2", "3 3 3 5/2 5/2 3"), "119/4"},
	} {
		if a := polygon.Area2(c.p); a != rat(c.want) {
			t.Errorf("Area2(%s) = %s", showPoly(c.p), rational.Print(a))
		}
	}
	// Twice the area of a simple ring is twice the number of the grid points inside, with that of those on it, less 2.
	for _, l := range rings(3, 300, 6) {
		count := -2
		for x := range 7 {
			for y := range 7 {
				count += 1 + locate(l, pair{x, y})
			}
		}
		if a := polygon.Area2(api.Polygon{Outer: fromPairs(l)}); a != rational.FromInt(count) || rational.Abs(polygon.RingArea2(fromPairs(l))) != a {
			t.Errorf("Area2(%v) = %s, not %d", l, rational.Print(a), count)
		}
	}
}

func TestP8_3LocateRing(t *testing.T) {
	if polygon.Outside != -1 || polygon.Border != 0 || polygon.Inside != 1 {
		t.Error("the names of places")
	}
	for _, l := range rings(4, 300, 5) {
		for x := -1; x <= 6; x++ {
			for y := -1; y <= 6; y++ {
				if n := polygon.LocateRing(fromPairs(l), plane.At(x, y)); n != locate(l, pair{x, y}) {
					t.Errorf("LocateRing(%v, %d, %d) = %d", l, x, y, n)
				}
			}
		}
	}
	thin := ring("0 0 1000000000000 1 2000000000000 2000000000001/1000000000000")
	for _, c := range []struct {
		at   string
		want int
	}{{"1000000000000 1", polygon.Border}, {"1000000000000 1000000000000000000000001/1000000000000000000000000", polygon.Inside}, {"1000000000000 999999999999/1000000000000", polygon.Outside}, {"1000000000000 2", polygon.Outside}, {"1 1/1000000000000", polygon.Border}, {"-1 0", polygon.Outside}} {
		if n := polygon.LocateRing(thin, point(c.at)); n != c.want {
			t.Errorf("LocateRing(%s) = %d", c.at, n)
		}
	}
}

func TestP8_3Locate(t *testing.T) {
	p := poly("0 0 4 0 4 4 0 4", "1 1 2 1 2 2 1 2", "3 3 3 5/2 5/2 3")
	for _, c := range []struct {
		at   string
		want int
	}{
		{"1 1", polygon.Border}, {"3/2 1", polygon.Border}, {"3/2 3/2", polygon.Outside}, {"1/2 1", polygon.Inside}, {"5/2 1", polygon.Inside}, {"5/2 2", polygon.Inside}, {"0 1", polygon.Border}, {"0 4", polygon.Border}, {"4 5", polygon.Outside}, {"-1 4", polygon.Outside}, {"-1 1", polygon.Outside}, {"-1 3/2", polygon.Outside},
		{"3 3", polygon.Border}, {"11/4 11/4", polygon.Border}, {"14/5 14/5", polygon.Outside}, {"27/10 27/10", polygon.Inside}, {"29/10 29/10", polygon.Outside}, {"5/2 5/2", polygon.Inside}, {"7/2 3", polygon.Inside}, {"7/2 5/2", polygon.Inside}, {"3 7/2", polygon.Inside},
	} {
		if n := polygon.Locate(p, point(c.at)); n != c.want {
			t.Errorf("Locate(%s) = %d", c.at, n)
		}
	}
}

func TestP8_4(t *testing.T) {
	p := poly("0 4 0 0 5/2 -1", "1/2 1 1 1 1/2 3/2", "1/4 1/4 1/2 1/4 1/4 1/2")
	want := ring("0 4 0 0 0 0 5/2 -1 5/2 -1 0 4 1/2 1 1 1 1 1 1/2 3/2 1/2 3/2 1/2 1 1/4 1/4 1/2 1/4 1/2 1/4 1/4 1/2 1/4 1/2 1/4 1/4")
	var got []api.Point
	for _, s := range polygon.Edges(p) {
		got = append(got, s.A, s.B)
	}
	if !slices.Equal(got, want) {
		t.Errorf("Edges = %s", show(got...))
	}
	for _, c := range []struct {
		p         api.Polygon
		low, high string
	}{{p, "0 -1", "5/2 4"}, {poly("-3 -4 -1/2 -5 -1 -1"), "-3 -5", "-1/2 -1"}, {poly("7 7 8 7 8 9 7 8"), "7 7", "8 9"}} {
		if low, high := polygon.Box(c.p); low != point(c.low) || high != point(c.high) {
			t.Errorf("Box(%s) = %s", showPoly(c.p), show(low, high))
		}
	}
}
