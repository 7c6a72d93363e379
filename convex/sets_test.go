package convex_test

import (
	"slices"
	"strconv"
	"testing"

	"viator/api"
	"viator/convex"
	"viator/integer"
	"viator/plane"
	"viator/polygon"
	"viator/rational"
)

func TestP9_4(t *testing.T) {
	for _, c := range []struct{ a, b, want string }{
		{"0 0 1 0 0 1", "0 0 2 0", "0 0 3 0 2 1 0 1"}, {"0 0 1 0 0 1", "", ""}, {"", "0 0 1 0 0 1", ""}, {"", "", ""}, {"1 2", "3 -1/2", "4 3/2"}, {"1 2", "0 0 1 1", "1 2 2 3"}, {"0 0 1 1", "0 0 2 2", "0 0 3 3"}, {"0 0 1 1", "0 1 1 0", "0 1 1 0 2 1 1 2"}, {"0 0 0 1", "0 0 1 0", "0 0 1 0 1 1 0 1"}, {"0 0 0 1", "0 2 0 5", "0 2 0 6"}, {"0 0 4 0 4 4 0 4", "0 0 1 0 1 1 0 1", "0 0 5 0 5 5 0 5"}, {"0 0 1 0 0 1", "-1 0 0 -1 0 0", "-1 0 0 -1 1 -1 1 0 0 1 -1 1"},
	} {
		expect(t, "Sum("+c.a+"; "+c.b+")", convex.Sum(points(c.a), points(c.b)), points(c.want))
	}
	pairs(func(a, b []api.Point) {
		var sums []api.Point
		for _, p := range a {
			for _, q := range b {
				sums = append(sums, plane.Add(p, q))
			}
		}
		expect(t, "Sum("+show(a...)+"; "+show(b...)+")", convex.Sum(a, b), hull(sums...))
	})
	twice := convex.Sum(round(100), round(100))
	if len(twice) != 400 || twice[7] != plane.Scale(round(100)[7], rat("2")) || len(convex.Sum(round(100), round(90))) != 400 {
		t.Errorf("the sums of long lists have %d points", len(twice))
	}
}

// cut returns the hull of the points of a list to the left of a line, and of those of its edges on it.
func cut(l []api.Point, line api.Segment) []api.Point {
	way := plane.Scale(plane.Sub(line.B, line.A), rat("1000"))
	long := api.Segment{A: plane.Sub(line.A, way), B: plane.Add(line.A, way)}
	var kept []api.Point
	for _, edge := range edges(l) {
		if plane.Orientation(line.A, line.B, edge.A) >= 0 {
			kept = append(kept, edge.A)
		}
		if m := plane.Meet(edge, long); m.Kind != plane.Apart {
			kept = append(kept, m.Common.A, m.Common.B)
		}
	}
	return hull(kept...)
}

func TestP9_5Cut(t *testing.T) {
	const square = "0 0 4 0 4 4 0 4"
	for _, c := range []struct{ l, line, want string }{
		{square, "2 0 2 1", "0 0 2 0 2 4 0 4"}, {square, "2 1 2 0", "2 0 4 0 4 4 2 4"}, {square, "4 5 4 0", "4 0 4 4"}, {square, "4 0 4 5", square}, {square, "5 0 4 -1", ""}, {square, "4 -1 5 0", square}, {square, "0 4 -4 0", square}, {square, "-4 0 0 4", "0 4"}, {square, "0 0 1/3 1/3", "0 0 4 4 0 4"}, {square, "3 0 4 1", "0 0 3 0 4 1 4 4 0 4"}, {square, "4 1 3 0", "3 0 4 0 4 1"},
		{"1 1", "0 0 2 2", "1 1"}, {"1 1", "0 0 1 2", ""}, {"1 1", "0 0 2 1", "1 1"}, {"0 0 4 0", "1 0 1 1", "0 0 1 0"}, {"0 0 4 0", "1 1 1 0", "1 0 4 0"}, {"0 0 4 0", "3 0 2 0", "0 0 4 0"}, {"0 0 4 0", "2 1 3 1", ""}, {"0 0 4 0", "0 0 0 1", "0 0"}, {"", "0 0 0 1", ""},
	} {
		got, e := convex.Cut(points(c.l), seg(c.line))
		if e != api.OK {
			t.Errorf("Cut(%s; %s): %d", c.l, c.line, e)
		}
		expect(t, "Cut("+c.l+"; "+c.line+")", got, points(c.want))
	}
	var lines []api.Segment
	for k, a := range grid("-1", "5", "1") {
		for n, b := range grid("-1", "5", "3/2") {
			if a != b && (3*k+n)%5 == 0 {
				lines = append(lines, api.Segment{A: a, B: b})
			}
		}
	}
	for _, l := range sets() {
		for _, line := range lines {
			left, e := convex.Cut(l, line)
			right, other := convex.Cut(l, api.Segment{A: line.B, B: line.A})
			if e != api.OK || other != api.OK {
				t.Errorf("Cut(%s; %s): %d", show(l...), show(line.A, line.B), e)
			}
			expect(t, "Cut("+show(l...)+"; "+show(line.A, line.B)+")", left, cut(l, line))
			if rational.Add(polygon.RingArea2(left), polygon.RingArea2(right)) != polygon.RingArea2(l) {
				t.Errorf("the areas of the parts of %s at %s", show(l...), show(line.A, line.B))
			}
		}
		for _, p := range points("0 0 1 1 1/2 3") {
			if got, e := convex.Cut(l, api.Segment{A: p, B: p}); e != api.ErrZero || got != nil {
				t.Errorf("Cut of %s at a point = %s, %d", show(l...), show(got...), e)
			}
		}
	}
}

// intersect returns the hull of the points of two lists that belong to the other set, and of the common points of their edges.
func intersect(a, b []api.Point) []api.Point {
	var common []api.Point
	for _, p := range a {
		if has(b, p) {
			common = append(common, p)
		}
	}
	for _, p := range b {
		if has(a, p) {
			common = append(common, p)
		}
	}
	for _, s := range edges(a) {
		for _, u := range edges(b) {
			if m := plane.Meet(s, u); m.Kind != plane.Apart {
				common = append(common, m.Common.A, m.Common.B)
			}
		}
	}
	return hull(common...)
}

func TestP9_5Intersect(t *testing.T) {
	const square = "0 0 4 0 4 4 0 4"
	for _, c := range []struct{ a, b, want string }{
		{square, "2 2 6 2 6 6 2 6", "2 2 4 2 4 4 2 4"}, {square, "4 4 6 4 6 6", "4 4"}, {square, "-1 2 9 2", "0 2 4 2"}, {square, "5 0 6 0 6 1", ""}, {square, square, square}, {square, "1 1 2 1 1 2", "1 1 2 1 1 2"}, {square, "4 1 7 1 7 9", "4 1"}, {square, "4 1 7 1 7 9 4 6", "4 1 4 4"}, {square, "", ""}, {"", square, ""}, {square, "4 4", "4 4"}, {square, "5 4", ""}, {square, "-1 -1 5 5", "0 0 4 4"}, {square, "-1 0 9 0", "0 0 4 0"}, {square, "-2 1 1 -2", ""}, {square, "-1 1 1 -1", "0 0"},
		{"1 1", "1 1", "1 1"}, {"1 1", "1 2", ""}, {"1 1", "0 0 3 3", "1 1"}, {"4 4", "0 0 3 3", ""}, {"0 0 3 3", "0 2 2 0", "1 1"}, {"0 0 3 3", "1 1 5 5", "1 1 3 3"}, {"0 0 3 3", "3 3 5 5", "3 3"}, {"0 0 3 3", "4 4 5 5", ""}, {"0 0 3 3", "0 1 3 4", ""}, {"0 0 0 3", "0 1 0 9", "0 1 0 3"},
	} {
		expect(t, "Intersect("+c.a+"; "+c.b+")", convex.Intersect(points(c.a), points(c.b)), points(c.want))
	}
	pairs(func(a, b []api.Point) {
		expect(t, "Intersect("+show(a...)+"; "+show(b...)+")", convex.Intersect(a, b), intersect(a, b))
	})
	long := convex.Intersect(round(40), moved(round(40), plane.At(0, 7)))
	expect(t, "the intersection of long lists", long, intersect(round(40), moved(round(40), plane.At(0, 7))))
}

// moved returns a list that is moved.
func moved(l []api.Point, by api.Point) []api.Point {
	var out []api.Point
	for _, p := range l {
		out = append(out, plane.Add(p, by))
	}
	return out
}

func TestP9_6(t *testing.T) {
	inner, outer, e := convex.Disk(rat("5"), 2)
	if e != api.OK || !slices.Contains(outer, point("5 5/2")) {
		t.Errorf("Disk(5, 2): %s, %d", show(outer...), e)
	}
	expect(t, "the inner ring", inner, points("-5 0 -3 -4 0 -5 4 -3 5 0 3 4 0 5 -4 3"))
	expect(t, "the outer ring", outer, points("-5 -5/2 -5/3 -5 5/2 -5 5 -5/3 5 5/2 5/3 5 -5/2 5 -5 5/3"))
	for _, radius := range []string{"1", "5", "1/3", "1000000000000/7"} {
		for n := 1; n <= convex.MaxLevel; n++ {
			checkDisk(t, rat(radius), n)
		}
	}
	for _, c := range []struct {
		radius string
		level  int
	}{{"0", 2}, {"-1", 2}, {"-1/1000", 1}, {"5", 0}, {"5", -1}, {"5", 17}, {"5", -1 << 63}, {"5", 1<<63 - 1}, {"0", 0}} {
		if in, out, e := convex.Disk(rat(c.radius), c.level); e != api.ErrRange || in != nil || out != nil {
			t.Errorf("Disk(%s, %d) = %v, %v, %d", c.radius, c.level, in, out, e)
		}
	}
}

// checkDisk compares the rings of a disk with the words of their definition.
func checkDisk(t *testing.T, radius api.Rat, n int) {
	t.Helper()
	inner, outer, e := convex.Disk(radius, n)
	what := "Disk(" + rational.Print(radius) + ", " + strconv.Itoa(n) + ")"
	if e != api.OK || convex.Check(inner) != api.OK || convex.Check(outer) != api.OK || len(inner) != 4*n || len(outer) != 4*n {
		t.Fatalf("%s: %d and %d points, %d", what, len(inner), len(outer), e)
	}
	for k := range n {
		x, _ := rational.FromInts(n*n-k*k, n*n+k*k)
		y, _ := rational.FromInts(2*n*k, n*n+k*k)
		v := plane.Scale(api.Point{X: x, Y: y}, radius)
		for range 4 {
			if !slices.Contains(inner, v) {
				t.Errorf("%s: %s is no point of the inner ring", what, show(v))
			}
			v = api.Point{X: rational.Neg(v.Y), Y: v.X}
		}
	}
	square := rational.Mul(radius, radius)
	part, _ := rational.FromInts(n*n+1, n*n)
	for _, edge := range edges(inner) {
		onTangents := func(p api.Point) bool { return plane.Dot(p, edge.A) == square && plane.Dot(p, edge.B) == square }
		if plane.Dot(edge.A, edge.A) != square || !slices.ContainsFunc(outer, onTangents) {
			t.Errorf("%s: the edge %s", what, show(edge.A, edge.B))
		}
	}
	for _, p := range outer {
		if d := plane.Dot(p, p); rational.Compare(d, square) <= 0 || rational.Compare(d, rational.Mul(square, part)) > 0 {
			t.Errorf("%s: the squared distance of %s is %s", what, show(p), rational.Print(d))
		}
	}
	for _, edge := range edges(outer) { // the outer ring contains the disk
		if rational.Compare(plane.PointSegment2(api.Point{}, edge), square) < 0 {
			t.Errorf("%s: the edge %s enters the disk", what, show(edge.A, edge.B))
		}
	}
}

func TestP9_7(t *testing.T) {
	inner, outer, e := convex.Grow(points("0 0 2 0"), rat("1"), 1)
	if e != api.OK {
		t.Errorf("Grow: %d", e)
	}
	expect(t, "the inner ring", inner, points("-1 0 0 -1 2 -1 3 0 2 1 0 1"))
	expect(t, "the outer ring", outer, points("-1 -1 3 -1 3 1 -1 1"))
	for _, l := range sets() {
		for _, n := range []int{1, 3} {
			in, out, _ := convex.Disk(rat("3/2"), n)
			inner, outer, e := convex.Grow(l, rat("3/2"), n)
			if e != api.OK {
				t.Errorf("Grow(%s): %d", show(l...), e)
			}
			expect(t, "the inner ring", inner, convex.Sum(l, in))
			expect(t, "the outer ring", outer, convex.Sum(l, out))
		}
		for _, c := range []struct {
			radius string
			level  int
		}{{"0", 2}, {"-1", 2}, {"5", 0}, {"5", 17}} {
			if in, out, e := convex.Grow(l, rat(c.radius), c.level); e != api.ErrRange || in != nil || out != nil {
				t.Errorf("Grow(%s, %s, %d) = %v, %v, %d", show(l...), c.radius, c.level, in, out, e)
			}
		}
	}
}

func TestP9_8Separate(t *testing.T) {
	pairs(func(a, b []api.Point) {
		s, e := convex.Separate(a, b)
		what := "Separate(" + show(a...) + "; " + show(b...) + ")"
		switch {
		case len(a) == 0 || len(b) == 0:
			if e != api.ErrEmpty || s != (convex.Separation{}) {
				t.Errorf("%s = %v, %d", what, s, e)
			}
		case len(intersect(a, b)) > 0:
			if e != api.OK || s != (convex.Separation{Common: s.Common}) || !has(a, s.Common) || !has(b, s.Common) {
				t.Errorf("%s = %v, %d", what, s, e)
			}
		default:
			if e != api.OK || s != (convex.Separation{Apart: true, Direction: s.Direction, Level: s.Level}) || !lies(-1, a, s) || !lies(1, b, s) {
				t.Errorf("%s = %v, %d", what, s, e)
			}
		}
		if e == api.OK && convex.CheckSeparation(a, b, s) != api.OK {
			t.Errorf("CheckSeparation does not accept %s = %v", what, s)
		}
	})
	near := points("0 1/1000000000000 1000000000000 1000000000001/1000000000000 0 1")
	if s, e := convex.Separate(points("0 0 1000000000000 1"), near); e != api.OK || !s.Apart || !lies(-1, points("0 0 1000000000000 1"), s) || !lies(1, near, s) {
		t.Errorf("Separate of two sets near each other = %v, %d", s, e)
	}
}

// lies tells whether all points are on one side of the line of a separation.
func lies(side int, l []api.Point, s convex.Separation) bool {
	for _, p := range l {
		if rational.Compare(rational.Add(rational.Mul(p.X, s.Direction.X), rational.Mul(p.Y, s.Direction.Y)), s.Level) != side {
			return false
		}
	}
	return true
}

func TestP9_8CheckSeparation(t *testing.T) {
	const triangle, other, line = "0 0 1 0 0 1", "1 1 2 1 1 2", "0 0 1 1"
	apart := func(direction, level string) convex.Separation {
		return convex.Separation{Apart: true, Direction: point(direction), Level: rat(level)}
	}
	common := func(p string) convex.Separation { return convex.Separation{Common: point(p)} }
	for _, c := range []struct {
		a, b string
		s    convex.Separation
		e    api.Errno
	}{
		{triangle, other, apart("1 1", "3/2"), api.OK}, {triangle, other, apart("1 1", "1001/1000"), api.OK}, {triangle, other, apart("1 1", "1"), api.ErrCertificate}, {triangle, other, apart("1 1", "2"), api.ErrCertificate}, {other, triangle, apart("1 1", "3/2"), api.ErrCertificate}, {other, triangle, apart("-1 -1", "-3/2"), api.OK}, {triangle, other, apart("0 0", "0"), api.ErrCertificate}, {triangle, other, apart("1 0", "1"), api.ErrCertificate}, {triangle, other, apart("2 3", "4"), api.OK}, {triangle, other, common("1 1"), api.ErrCertificate}, {triangle, other, common("0 0"), api.ErrCertificate}, {triangle, other, convex.Separation{}, api.ErrCertificate},
		{triangle, other, convex.Separation{Apart: true, Direction: point("1 1"), Level: rat("3/2"), Common: point("1 0")}, api.ErrCertificate}, {triangle, other, convex.Separation{Apart: true, Direction: point("1 1"), Level: rat("3/2"), Common: point("0 1")}, api.ErrCertificate}, {triangle, other, convex.Separation{Direction: point("1 1"), Level: rat("3/2")}, api.ErrCertificate},
		{other, line, common("1 1"), api.OK}, {line, other, common("1 1"), api.OK}, {other, line, common("1/2 1/2"), api.ErrCertificate}, {other, line, common("3/2 3/2"), api.ErrCertificate}, {line, triangle, common("1/3 1/3"), api.OK}, {line, triangle, common("1/2 1/2"), api.OK}, {line, triangle, common("0 0"), api.OK}, {triangle, line, common("1/4 1/2"), api.ErrCertificate},
		{other, line, convex.Separation{Common: point("1 1"), Level: rat("1")}, api.ErrCertificate}, {other, line, convex.Separation{Common: point("1 1"), Direction: point("1 0")}, api.ErrCertificate}, {other, line, convex.Separation{Apart: true, Common: point("1 1")}, api.ErrCertificate}, {line, other, apart("1 1", "2"), api.ErrCertificate},
		{"", other, apart("1 1", "3/2"), api.ErrEmpty}, {triangle, "", apart("1 1", "3/2"), api.ErrEmpty}, {"", "", convex.Separation{}, api.ErrEmpty}, {"", other, common("1 1"), api.ErrEmpty}, {"3 4", "3 4", common("3 4"), api.OK}, {"3 4", "3 5", apart("0 1", "9/2"), api.OK},
	} {
		if e := convex.CheckSeparation(points(c.a), points(c.b), c.s); e != c.e {
			t.Errorf("CheckSeparation(%s; %s; %v) = %d", c.a, c.b, c.s, e)
		}
	}
	one := integer.FromInt(1)
	for _, s := range []convex.Separation{{Common: api.Point{X: api.Rat{Num: one, Den: one}, Y: rat("1")}}, {Common: point("1 1"), Level: api.Rat{Den: one}}, {Common: point("1 1"), Direction: api.Point{Y: api.Rat{Den: one}}}, {Apart: true, Direction: point("1 1"), Level: api.Rat{Num: integer.FromInt(6), Den: integer.FromInt(4)}}} {
		if e := convex.CheckSeparation(points(other), points(line), s); e != api.ErrCertificate {
			t.Errorf("CheckSeparation with a fraction that is not canonical = %d", e)
		}
	}
	long := convex.Separation{Apart: true, Direction: api.Point{X: rat("1"), Y: api.Rat{Num: one, Den: one}}, Level: rat("3/2")}
	if e := convex.CheckSeparation(points(triangle), points(other), long); e != api.ErrCertificate {
		t.Errorf("CheckSeparation with a direction that is not canonical = %d", e)
	}
}

func TestP9_9(t *testing.T) {
	l := sets()
	for k, a := range l {
		expect(t, "the hull of a list", hull(a...), a)
		expect(t, "the intersection of a set with itself", convex.Intersect(a, a), a)
		for n, b := range l {
			sum, common := convex.Sum(a, b), convex.Intersect(a, b)
			expect(t, "the other sum", convex.Sum(b, a), sum)
			expect(t, "the other intersection", convex.Intersect(b, a), common)
			c := l[(3*k+5*n)%len(l)]
			expect(t, "the sum of three sets", convex.Sum(sum, c), convex.Sum(a, convex.Sum(b, c)))
			expect(t, "the intersection of three sets", convex.Intersect(common, c), convex.Intersect(a, convex.Intersect(b, c)))
			if len(sum) == 0 {
				continue
			}
			for _, direction := range grid("-1", "1", "1/2") {
				ofA, _ := convex.Support(a, direction)
				ofB, _ := convex.Support(b, direction)
				ofSum, _ := convex.Support(sum, direction)
				if plane.Dot(plane.Add(ofA, ofB), direction) != plane.Dot(ofSum, direction) {
					t.Errorf("Support of the sum of %s and %s", show(a...), show(b...))
				}
			}
		}
	}
}

func TestP9_9Grow(t *testing.T) {
	radius := rat("3/2")
	for _, l := range sets()[1:] {
		for _, n := range []int{1, 2, 5} {
			inner, outer, _ := convex.Grow(l, radius, n)
			for _, p := range append(grid("-4", "7", "3/4"), inner...) {
				distance := plane.PointSegment2(p, api.Segment{A: l[0], B: l[len(l)-1]})
				for _, edge := range edges(l) {
					distance = rational.Min(distance, plane.PointSegment2(p, edge))
				}
				near := has(l, p) || rational.Compare(distance, rational.Mul(radius, radius)) <= 0
				if has(inner, p) && !near || near && !has(outer, p) {
					t.Errorf("Grow(%s, %d) and %s", show(l...), n, show(p))
				}
			}
		}
	}
}

func TestP9_9Arguments(t *testing.T) {
	const first, second = "0 0 4 0 4 4 0 4", "1 1 9 1 1 9"
	a, b := points(first), points(second)
	h, _ := convex.Hull(a)
	same, _ := convex.Cut(a, seg("9 0 9 1"))
	inner, outer, _ := convex.Grow(a, rat("1"), 2)
	convex.Separate(a, b)
	for _, l := range [][]api.Point{h, same, convex.Intersect(a, points("-1 -1 9 -1 9 9 -1 9")), convex.Intersect(b, b), convex.Sum(a, points("0 0")), convex.Sum(points("0 0"), b), inner, outer} {
		clear(l[:cap(l)])
	}
	expect(t, "the argument", a, points(first))
	expect(t, "the argument", b, points(second))
}

// Nothing is specified for lists that are not valid, but no function may panic or go on for ever.
func TestP1NotValid(t *testing.T) {
	l := [][]api.Point{nil, points("1 1 1 1"), points("3 3 1 1"), points("0 0 2 2 2 0 0 2"), points("0 0 1 0 2 0"), points("3 3 3 3 3 3"), points("0 0 0 4 4 4 4 0"), points("0 0 4 1 1 4 2 0 2 4"), points("0 0 4 0 0 4 0 0 4 0 0 4"), points("5 5 0 0 7 1")}
	for _, r := range odd() {
		l = append(l, []api.Point{{X: r}}, []api.Point{{Y: r}, {X: r}}, []api.Point{{X: r}, {X: r, Y: r}, {Y: r}, plane.At(1, 5)})
	}
	for _, a := range l {
		at := append(slices.Clone(a), api.Point{})[0]
		convex.Check(a)
		convex.Hull(a)
		convex.Diameter2(a)
		convex.Disk(at.X, 3)
		convex.Grow(a, at.X, 2)
		convex.Grow(a, rat("1"), 2)
		for _, b := range l {
			end := append(slices.Clone(b), api.Point{})[0]
			convex.Locate(a, end)
			convex.Support(a, end)
			convex.Sum(a, b)
			convex.Cut(a, api.Segment{A: at, B: end})
			convex.Cut(a, api.Segment{A: end, B: plane.At(1, 1)})
			convex.Intersect(a, b)
			convex.Separate(a, b)
			convex.CheckSeparation(a, b, convex.Separation{Common: at})
			convex.CheckSeparation(a, b, convex.Separation{Apart: true, Direction: end, Level: at.Y})
		}
	}
}
