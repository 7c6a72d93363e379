package convex_test

import (
	"math/rand"
	"slices"
	"strings"
	"testing"

	"viator/api"
	"viator/convex"
	"viator/integer"
	"viator/plane"
	"viator/polygon"
	"viator/rational"
)

func rat(s string) api.Rat {
	r, e := rational.Parse(s)
	if e != api.OK {
		panic(s)
	}
	return r
}

// points returns the points whose coordinates stand in a string.
func points(s string) []api.Point {
	c := strings.Fields(s)
	var l []api.Point
	for k := 0; k < len(c); k += 2 {
		l = append(l, api.Point{X: rat(c[k]), Y: rat(c[k+1])})
	}
	return l
}

func point(s string) api.Point { return points(s)[0] }

func seg(s string) api.Segment {
	ends := points(s)
	return api.Segment{A: ends[0], B: ends[1]}
}

func show(l ...api.Point) string {
	var parts []string
	for _, p := range l {
		parts = append(parts, rational.Print(p.X)+" "+rational.Print(p.Y))
	}
	return strings.Join(parts, " ")
}

// odd contains fractions that are not canonical.
func odd() []api.Rat {
	return []api.Rat{{Num: api.Int{Neg: true}}, {Num: api.Int{Mag: "\x00\x01"}}, {Num: integer.FromInt(1), Den: integer.FromInt(1)}, {Num: integer.FromInt(2), Den: integer.FromInt(4)}, {Num: integer.FromInt(1), Den: integer.FromInt(-2)}, {Den: integer.FromInt(3)}}
}

// grid returns the points with coordinates from low to high in steps.
func grid(low, high, step string) []api.Point {
	var l []api.Point
	for x := rat(low); rational.Compare(x, rat(high)) <= 0; x = rational.Add(x, rat(step)) {
		for y := rat(low); rational.Compare(y, rat(high)) <= 0; y = rational.Add(y, rat(step)) {
			l = append(l, api.Point{X: x, Y: y})
		}
	}
	return l
}

// lists calls a function with all lists of n points of a set.
func lists(n int, of []api.Point, f func(l []api.Point)) {
	l := make([]api.Point, n)
	var choose func(k int)
	choose = func(k int) {
		if k == n {
			f(l)
			return
		}
		for _, p := range of {
			l[k] = p
			choose(k + 1)
		}
	}
	choose(0)
}

// isValid tells whether a list with at most api.MaxVertices points is valid.
func isValid(l []api.Point) bool {
	switch len(l) {
	case 0, 1:
		return true
	case 2:
		return plane.Compare(l[0], l[1]) < 0
	}
	for k := range l {
		if plane.Orientation(l[k], l[(k+1)%len(l)], l[(k+2)%len(l)]) != 1 || k > 0 && plane.Compare(l[0], l[k]) >= 0 {
			return false
		}
	}
	return polygon.CheckRing(l) == api.OK
}

// has tells whether a point belongs to the set of a list.
func has(l []api.Point, p api.Point) bool {
	if len(l) < 3 {
		return len(l) > 0 && plane.OnSegment(p, api.Segment{A: l[0], B: l[len(l)-1]})
	}
	for k := range l {
		if plane.Orientation(l[k], l[(k+1)%len(l)], p) < 0 {
			return false
		}
	}
	return true
}

// edges returns the edges of the ring of a list.
func edges(l []api.Point) []api.Segment {
	var out []api.Segment
	for k, p := range l {
		out = append(out, api.Segment{A: p, B: l[(k+1)%len(l)]})
	}
	return out
}

func hull(l ...api.Point) []api.Point {
	h, e := convex.Hull(l)
	if e != api.OK {
		panic(e)
	}
	return h
}

// sets returns valid lists: points, segments in all directions, and rings.
func sets() [][]api.Point {
	l := [][]api.Point{
		nil, points("0 0"), points("1 1"), points("1/2 3"), points("4 4"), points("0 0 2 0"), points("0 0 0 2"), points("0 0 4 4"), points("0 2 2 0"), points("1 1 3 2"), points("1 0 3 0"), points("-3 -1/3 5 7/3"),
		points("0 0 1 0 0 1"), points("0 0 4 0 4 4 0 4"), points("2 2 6 2 6 6 2 6"), points("4 4 6 4 6 6"), points("-1 2 9 2"), points("1 1 2 1 1 2"), points("0 2 2 0 4 2 2 4"), points("-5 0 -3 -4 0 -5 4 -3 5 0 3 4 0 5 -4 3"), points("0 0 1 -1/2 3 0 7/3 2 1/3 5/3"), points("10 10 11 10 10 11"), points("1 1 3 1 3 3 1 3"),
	}
	r := rand.New(rand.NewSource(1))
	for range 12 {
		var cloud []api.Point
		for range 3 + r.Intn(9) {
			x, _ := rational.FromInts(r.Intn(25)-6, 1+r.Intn(3))
			y, _ := rational.FromInts(r.Intn(25)-6, 1+r.Intn(3))
			cloud = append(cloud, api.Point{X: x, Y: y})
		}
		l = append(l, hull(cloud...))
	}
	return l
}

func pairs(f func(a, b []api.Point)) {
	l := sets()
	for _, a := range l {
		for _, b := range l {
			f(a, b)
		}
	}
}

// expect compares the list of a set, which has to be valid.
func expect(t *testing.T, what string, got, want []api.Point) {
	t.Helper()
	if e := convex.Check(got); !slices.Equal(got, want) || e != api.OK {
		t.Errorf("%s is %s (%d), not %s", what, show(got...), e, show(want...))
	}
}

// round returns a valid list with 4 * n points that lie on a parabola and its reflection.
func round(n int) []api.Point {
	var l []api.Point
	for x := -n; x < n; x++ {
		l = append(l, plane.At(x, x*x))
	}
	for x := n; x > -n; x-- {
		l = append(l, plane.At(x, 2*n*n-x*x))
	}
	return l
}

func TestP9_1(t *testing.T) {
	for _, c := range []struct {
		l string
		e api.Errno
	}{
		{"", api.OK}, {"1/2 -7", api.OK}, {"1 1 3 3", api.OK}, {"1 1 1 3", api.OK}, {"0 0 4 0 4 4", api.OK}, {"-5 0 -3 -4 0 -5 4 -3 5 0 3 4 0 5 -4 3", api.OK}, {"0 0 1000000000000 1 2000000000000 2000000000001/1000000000000", api.OK},
		{"3 3 1 1", api.ErrShape}, {"1 3 1 1", api.ErrShape}, {"1 1 1 1", api.ErrShape}, {"4 0 4 4 0 0", api.ErrShape}, {"0 0 4 4 4 0", api.ErrShape}, {"0 0 2 0 4 0 4 4", api.ErrShape}, {"0 0 4 0 4 4 2 2", api.ErrShape}, {"0 0 4 0 4 0 4 4", api.ErrShape}, {"0 0 1 0 2 0", api.ErrShape}, {"0 0 4 0 1 1 0 4", api.ErrShape},
		{"0 0 4 1 1 4 2 0 2 4", api.ErrShape}, {"0 0 4 0 0 4 0 0 4 0 0 4", api.ErrShape}, {"0 0 4 1 1 4 1 0 4 4 0 3", api.ErrShape}, {"-5 0 0 -5 5 0 0 5 -4 -3 3 -4 4 3 -3 4", api.ErrShape},
	} {
		if e := convex.Check(points(c.l)); e != c.e {
			t.Errorf("Check(%s) = %d", c.l, e)
		}
	}
	for n := range 5 {
		lists(n, grid("0", "2", "1"), func(l []api.Point) {
			want := api.ErrShape
			if isValid(l) {
				want = api.OK
			}
			if e := convex.Check(l); e != want {
				t.Errorf("Check(%s) = %d", show(l...), e)
			}
		})
	}
	for _, n := range []int{10, 300} {
		if e := convex.Check(round(n)); e != api.OK {
			t.Errorf("Check of %d points = %d", 4*n, e)
		}
		if e := convex.Check(slices.Concat(round(n)[1:], round(n)[:1])); e != api.ErrShape {
			t.Errorf("Check of %d points from another one on = %d", 4*n, e)
		}
	}
	for _, r := range odd() {
		for _, l := range []string{"", "0 0", "0 0 4 0 4 4", "4 0 4 4 0 0"} {
			for _, p := range []api.Point{{X: r}, {Y: r}} {
				if e := convex.Check(append(points(l), p)); e != api.ErrForm {
					t.Errorf("Check of %s and %v = %d", l, p, e)
				}
			}
		}
	}
}

func TestP9_2(t *testing.T) {
	for _, c := range []struct{ l, want string }{
		{"", ""}, {"2 2", "2 2"}, {"2 2 2 2 2 2", "2 2"}, {"1 1 3 3 2 2", "1 1 3 3"}, {"3 3 1 1", "1 1 3 3"}, {"0 5 0 1 0 3", "0 1 0 5"}, {"0 0 4 0 2 1 4 4 2 0 0 4", "0 0 4 0 4 4 0 4"}, {"0 4 4 4 4 0 0 0 0 4 4 0", "0 0 4 0 4 4 0 4"}, {"1/3 0 1/2 1 1/2 1/2 1/4 1/2", "1/4 1/2 1/3 0 1/2 1/2 1/2 1"},
	} {
		h, e := convex.Hull(points(c.l))
		if e != api.OK {
			t.Errorf("Hull(%s): %d", c.l, e)
		}
		expect(t, "Hull("+c.l+")", h, points(c.want))
	}
	r := rand.New(rand.NewSource(2))
	all := grid("0", "3", "1")
	for range 3000 {
		l := make([]api.Point, r.Intn(11))
		for k := range l {
			l[k] = all[r.Intn(len(all))]
		}
		before := slices.Clone(l)
		h, e := convex.Hull(l)
		if e != api.OK || !isValid(h) || !slices.Equal(l, before) {
			t.Fatalf("Hull(%s) = %s, %d", show(before...), show(h...), e)
		}
		if slices.ContainsFunc(h, func(p api.Point) bool { return !slices.Contains(l, p) }) || slices.ContainsFunc(l, func(p api.Point) bool { return !has(h, p) }) {
			t.Errorf("Hull(%s) = %s", show(l...), show(h...))
		}
	}
	most := append(round(100), slices.Repeat(points("0 1"), convex.MaxPoints-400)...)
	if h, e := convex.Hull(most); e != api.OK || !slices.Equal(h, round(100)) {
		t.Errorf("Hull of %d points: %d", len(most), e)
	}
	for _, l := range [][]api.Point{append(most, plane.At(0, 0)), make([]api.Point, 513), make([]api.Point, 5000)} {
		if h, e := convex.Hull(l); e != api.ErrLimit || h != nil {
			t.Errorf("Hull of %d points = %s, %d", len(l), show(h...), e)
		}
	}
	if convex.MaxPoints != 512 || convex.MaxLevel != 16 {
		t.Error("the limits")
	}
}

func TestP9_3Locate(t *testing.T) {
	for _, l := range sets() {
		for _, p := range append(grid("-2", "6", "1/2"), l...) {
			want := polygon.Outside
			switch {
			case len(l) > 2:
				want = polygon.LocateRing(l, p)
			case has(l, p):
				want = polygon.Border
			}
			if n := convex.Locate(l, p); n != want {
				t.Errorf("Locate(%s; %s) = %d", show(l...), show(p), n)
			}
		}
	}
	for _, c := range []struct {
		l, p string
		want int
	}{{"", "0 0", polygon.Outside}, {"1 2", "1 2", polygon.Border}, {"1 2", "2 1", polygon.Outside}, {"1 1 3 3", "2 2", polygon.Border}, {"1 1 3 3", "3 3", polygon.Border}, {"1 1 3 3", "4 4", polygon.Outside}, {"1 1 3 3", "2 1", polygon.Outside}, {"0 0 4 0 0 4", "1 1", polygon.Inside}, {"0 0 4 0 0 4", "2 2", polygon.Border}, {"0 0 4 0 0 4", "6 -2", polygon.Outside}, {"0 0 4 0 0 4", "5 0", polygon.Outside}, {"0 0 4 0 0 4", "4 0", polygon.Border}} {
		if n := convex.Locate(points(c.l), point(c.p)); n != c.want {
			t.Errorf("Locate(%s; %s) = %d", c.l, c.p, n)
		}
	}
	if convex.Locate(round(50), plane.At(0, 1)) != polygon.Inside || convex.Locate(round(50), plane.At(3, 9)) != polygon.Border || convex.Locate(round(50), plane.At(3, 8)) != polygon.Outside {
		t.Error("Locate with 200 points")
	}
}

func TestP9_3Support(t *testing.T) {
	for _, l := range sets() {
		for _, direction := range append(grid("-2", "2", "1"), points("1/3 -7/2 1000000000000 1")...) {
			got, e := convex.Support(l, direction)
			if len(l) == 0 {
				if e != api.ErrEmpty || got != (api.Point{}) {
					t.Errorf("Support of nothing = %s, %d", show(got), e)
				}
				continue
			}
			farthest := slices.MaxFunc(l, func(p, q api.Point) int {
				if order := rational.Compare(plane.Dot(p, direction), plane.Dot(q, direction)); order != 0 {
					return order
				}
				return plane.Compare(q, p)
			})
			if e != api.OK || got != farthest {
				t.Errorf("Support(%s; %s) = %s, %d", show(l...), show(direction), show(got), e)
			}
		}
	}
	for _, c := range []struct{ direction, want string }{{"1 0", "4 0"}, {"0 1", "0 4"}, {"-1 0", "0 0"}, {"0 -1", "0 0"}, {"0 0", "0 0"}, {"1 1", "4 4"}, {"-1 1", "0 4"}} {
		if p, e := convex.Support(points("0 0 4 0 4 4 0 4"), point(c.direction)); e != api.OK || p != point(c.want) {
			t.Errorf("Support in the direction %s = %s, %d", c.direction, show(p), e)
		}
	}
}

func TestP9_3Diameter2(t *testing.T) {
	for _, c := range []struct{ l, want string }{{"", "0"}, {"1 1", "0"}, {"1 1 4 5", "25"}, {"0 0 4 0 4 4 0 4", "32"}, {"0 0 1/2 0 0 1/3", "13/36"}, {"0 0 9 -1 10 0 9 1", "100"}, {"0 0 1 0 8 2 7 2", "68"}} {
		if d := convex.Diameter2(points(c.l)); d != rat(c.want) {
			t.Errorf("Diameter2(%s) = %s", c.l, rational.Print(d))
		}
	}
	all := append(sets(), round(5), round(40))
	r := rand.New(rand.NewSource(3))
	for range 2000 {
		var cloud []api.Point
		for range 2 + r.Intn(20) {
			cloud = append(cloud, plane.At(r.Intn(1+r.Intn(20)), r.Intn(1+r.Intn(20))))
		}
		all = append(all, hull(cloud...))
	}
	for _, l := range all {
		var want api.Rat
		for _, p := range l {
			for _, q := range l {
				want = rational.Max(want, plane.Distance2(p, q))
			}
		}
		if d := convex.Diameter2(l); d != want {
			t.Errorf("Diameter2(%s) = %s, not %s", show(l...), rational.Print(d), rational.Print(want))
		}
	}
}
