package plane_test

import (
	"cmp"
	"math"
	"math/big"
	"strings"
	"testing"

	"viator/api"
	"viator/integer"
	"viator/plane"
	"viator/rational"
)

func rat(s string) api.Rat {
	r, e := rational.Parse(s)
	if e != api.OK {
		panic(s)
	}
	return r
}

// points returns the points whose coordinates stand in a string, point returns one, and seg the segment between two of them.
func points(s string) []api.Point {
	c := strings.Fields(s)
	var l []api.Point
	for k := 0; k < len(c); k += 2 {
		l = append(l, api.Point{X: rat(c[k]), Y: rat(c[k+1])})
	}
	return l
}

func point(s string) api.Point { return points(s)[0] }

func seg(s string) api.Segment {
	ends := points(s)
	return api.Segment{A: ends[0], B: ends[1]}
}

func show(l ...api.Point) string {
	var parts []string
	for _, p := range l {
		parts = append(parts, rational.Print(p.X)+" "+rational.Print(p.Y))
	}
	return strings.Join(parts, " ")
}

func showSeg(s api.Segment) string { return show(s.A, s.B) }

// vector is a point in the numbers of the standard library; it is what results are compared with.
type vector struct{ x, y *big.Rat }

func toBig(a api.Rat) *big.Rat {
	x, ok := new(big.Rat).SetString(rational.Print(a))
	if !ok {
		panic(a)
	}
	return x
}

func toVector(p api.Point) vector { return vector{toBig(p.X), toBig(p.Y)} }

func fromVector(v vector) api.Point {
	return api.Point{X: rat(v.x.RatString()), Y: rat(v.y.RatString())}
}

func minus(x, y *big.Rat) *big.Rat { return new(big.Rat).Sub(x, y) }
func times(x, y *big.Rat) *big.Rat { return new(big.Rat).Mul(x, y) }

func (v vector) less(w vector) vector    { return vector{minus(v.x, w.x), minus(v.y, w.y)} }
func (v vector) cross(w vector) *big.Rat { return minus(times(v.x, w.y), times(v.y, w.x)) }
func (v vector) dot(w vector) *big.Rat {
	return new(big.Rat).Add(times(v.x, w.x), times(v.y, w.y))
}

// along returns v + r * w.
func (v vector) along(r *big.Rat, w vector) vector {
	return vector{new(big.Rat).Add(v.x, times(r, w.x)), new(big.Rat).Add(v.y, times(r, w.y))}
}

// samples returns points whose coordinates are integers, fractions and large numbers.
func samples() []api.Point {
	coordinates := []string{"0", "1", "-2/3", "7/5", "1000000000000000000000/7", "-123456789012345678901234567890"}
	var l []api.Point
	for _, x := range coordinates {
		for _, y := range coordinates {
			l = append(l, point(x+" "+y))
		}
	}
	return l
}

// grid returns the points with coordinates that are integers from low to high, scaled and moved so that they become fractions. Their order stays.
func grid(low, high int) []api.Point {
	var l []api.Point
	for x := low; x <= high; x++ {
		for y := low; y <= high; y++ {
			l = append(l, api.Point{X: rational.Add(rational.Mul(rational.FromInt(x), rat("2/3")), rat("-1/7")), Y: rational.Mul(rational.FromInt(y), rat("5/4"))})
		}
	}
	return l
}

// segments returns all segments between the points of a grid.
func segments(l []api.Point) []api.Segment {
	var all []api.Segment
	for _, a := range l {
		for _, b := range l {
			all = append(all, api.Segment{A: a, B: b})
		}
	}
	return all
}

func pairs(f func(p, q api.Point)) {
	l := samples()
	for _, p := range l {
		for _, q := range l {
			f(p, q)
		}
	}
}

func TestP7_1(t *testing.T) {
	wrong := []api.Rat{{Num: api.Int{Neg: true}}, {Num: api.Int{Mag: "\x00\x01"}}, {Num: integer.FromInt(1), Den: integer.FromInt(1)}, {Num: integer.FromInt(2), Den: integer.FromInt(4)}, {Num: integer.FromInt(1), Den: integer.FromInt(-2)}, {Den: integer.FromInt(3)}}
	for _, r := range wrong {
		for _, p := range []api.Point{{X: r}, {Y: r}, {X: r, Y: r}, {X: r, Y: rat("1/2")}, {X: rat("1/2"), Y: r}} {
			if e := plane.Check(p); e != api.ErrForm {
				t.Errorf("Check(%v) = %d", p, e)
			}
		}
	}
	for _, p := range samples() {
		if e := plane.Check(p); e != api.OK {
			t.Errorf("Check(%s) = %d", show(p), e)
		}
	}
	for _, c := range []struct {
		x, y int
		want string
	}{{0, 0, "0 0"}, {3, -4, "3 -4"}, {math.MaxInt, math.MinInt, "9223372036854775807 -9223372036854775808"}} {
		if p := plane.At(c.x, c.y); p != point(c.want) {
			t.Errorf("At(%d, %d) = %s", c.x, c.y, show(p))
		}
	}
}

func TestP7_2(t *testing.T) {
	pairs(func(p, q api.Point) {
		v, w := toVector(p), toVector(q)
		one := big.NewRat(1, 1)
		if plane.Add(p, q) != fromVector(v.along(one, w)) || plane.Sub(p, q) != fromVector(v.less(w)) || plane.Scale(p, q.X) != fromVector(vector{new(big.Rat), new(big.Rat)}.along(w.x, v)) {
			t.Errorf("Add, Sub or Scale of %s and %s", show(p), show(q))
		}
		if plane.Dot(p, q) != rat(v.dot(w).RatString()) || plane.CrossProduct(p, q) != rat(v.cross(w).RatString()) {
			t.Errorf("Dot or CrossProduct of %s and %s", show(p), show(q))
		}
	})
	if plane.Dot(plane.At(3, 4), plane.At(-1, 2)) != rat("5") || plane.CrossProduct(plane.At(3, 4), plane.At(-1, 2)) != rat("10") || plane.Scale(plane.At(3, 4), rat("-1/2")) != point("-3/2 -2") {
		t.Error("Dot, CrossProduct or Scale of an example")
	}
}

func TestP7_3Compare(t *testing.T) {
	pairs(func(p, q api.Point) {
		v, w := toVector(p), toVector(q)
		if n := plane.Compare(p, q); n != cmp.Or(v.x.Cmp(w.x), v.y.Cmp(w.y)) {
			t.Errorf("Compare(%s, %s) = %d", show(p), show(q), n)
		}
	})
}

func TestP7_3Orientation(t *testing.T) {
	for _, c := range []struct {
		l    string
		want int
	}{
		{"0 0 2 0 1 1", 1}, {"0 0 2 0 1 -1", -1}, {"0 0 2 2 5 5", 0}, {"0 0 2 2 -5 -5", 0}, {"1 1 1 1 2 3", 0}, {"1 1 2 3 1 1", 0}, {"1 1 1 1 1 1", 0}, {"1/3 0 1/3 1 1/4 0", 1}, {"1/3 0 1/3 1 1/2 0", -1},
		{"0 0 1000000000000 1 2000000000000 2", 0}, {"0 0 1000000000000 1 2000000000000 2000000000001/1000000000000", 1}, {"0 0 1000000000000 1 2000000000000 1999999999999/1000000000000", -1},
	} {
		l := points(c.l)
		if n := plane.Orientation(l[0], l[1], l[2]); n != c.want {
			t.Errorf("Orientation(%s) = %d", c.l, n)
		}
	}
	l := grid(-1, 1)
	for _, a := range l {
		for _, b := range l {
			for _, c := range l {
				v := toVector(b).less(toVector(a))
				if n := plane.Orientation(a, b, c); n != v.cross(toVector(c).less(toVector(a))).Sign() {
					t.Errorf("Orientation(%s) = %d", show(a, b, c), n)
				}
			}
		}
	}
}

// direction returns the angle of a vector in a full turn, and -1 for the zero vector.
func direction(x, y int) float64 {
	if x == 0 && y == 0 {
		return -1
	}
	angle := math.Atan2(float64(y), float64(x))
	if angle < 0 {
		angle += 2 * math.Pi
	}
	return angle
}

func TestP7_3Around(t *testing.T) {
	const most = 4
	third := rat("1/3")
	for k := range (2*most + 1) * (2*most + 1) {
		for n := range (2*most + 1) * (2*most + 1) {
			x, y := k/(2*most+1)-most, k%(2*most+1)-most
			u, v := n/(2*most+1)-most, n%(2*most+1)-most
			want := cmp.Compare(direction(x, y), direction(u, v))
			if math.Abs(direction(x, y)-direction(u, v)) < 1e-9 {
				want = 0
			}
			if got := plane.Around(plane.At(x, y), plane.Scale(plane.At(u, v), third)); got != want {
				t.Errorf("Around of (%d, %d) and (%d, %d) = %d", x, y, u, v, got)
			}
		}
	}
	ordered := points("0 0 5 0 1000000000000000000000 1 100000000000000000000 1 1/2 1/3 0 1/9 -1 100 -2 0 -1 -1/1000 0 -3 1/1000 -1 1 -1/1000")
	for k, p := range ordered {
		for n, q := range ordered {
			if got := plane.Around(p, q); got != cmp.Compare(k, n) {
				t.Errorf("Around(%s, %s) = %d", show(p), show(q), got)
			}
		}
	}
}

func TestP7_7(t *testing.T) {
	for _, c := range []struct {
		l    string
		want api.Box
	}{
		{"1/2 -1/2 3 2", api.Box{X0: 0, X1: 3, Y0: -1, Y1: 2}}, {"0 0", api.Box{}}, {"-3 7", api.Box{X0: -3, X1: -3, Y0: 7, Y1: 7}}, {"1/3 -1/3", api.Box{X0: 0, X1: 1, Y0: -1, Y1: 0}},
		{"5 5 -7/2 9/2 4 -13/3 11/2 0", api.Box{X0: -4, X1: 6, Y0: -5, Y1: 5}}, {"5/2 0 7/3 0", api.Box{X0: 2, X1: 3}}, {"-5/2 1 -7/3 1", api.Box{X0: -3, X1: -2, Y0: 1, Y1: 1}},
		{"1099511627776 -1099511627776 -1099511627776 1099511627776", api.Box{X0: -1 << 40, X1: 1 << 40, Y0: -1 << 40, Y1: 1 << 40}}, {"2199023255551/2 -2199023255551/2", api.Box{X0: 1<<40 - 1, X1: 1 << 40, Y0: -1 << 40, Y1: -1<<40 + 1}},
	} {
		if b, e := plane.Box(points(c.l)); b != c.want || e != api.OK {
			t.Errorf("Box(%s) = %v, %d; want %v", c.l, b, e, c.want)
		}
	}
	for _, l := range [][]api.Point{nil, {}} {
		if b, e := plane.Box(l); b != (api.Box{}) || e != api.ErrEmpty {
			t.Errorf("Box of nothing = %v, %d", b, e)
		}
	}
	for _, r := range []string{"1099511627777", "-1099511627777", "2199023255553/2", "-2199023255553/2", "9223372036854775807", "-9223372036854775808", "18446744073709551616", "-18446744073709551617", "1000000000000000000000000000000"} {
		for _, l := range []string{r + " 0", "0 " + r, "0 0 1 1 " + r + " 2", "0 0 1 1 2 " + r, r + " " + r + " 0 0"} {
			if b, e := plane.Box(points(l)); b != (api.Box{}) || e != api.ErrRange {
				t.Errorf("Box(%s) = %v, %d", l, b, e)
			}
		}
	}
}

func TestP7_8Orientation(t *testing.T) {
	by := point("-4/9 100000000000000000001")
	l := grid(-1, 1)
	for _, a := range l {
		for _, b := range l {
			for _, c := range l {
				n := plane.Orientation(a, b, c)
				if plane.Orientation(b, a, c) != -n || plane.Orientation(a, c, b) != -n || plane.Orientation(c, b, a) != -n || plane.Orientation(plane.Add(a, by), plane.Add(b, by), plane.Add(c, by)) != n {
					t.Errorf("Orientation of %s with points exchanged or moved", show(a, b, c))
				}
			}
		}
	}
}

func TestP7_8Around(t *testing.T) {
	l := append(grid(-1, 1), points("0 0 1 0 -1 0 0 -1 2 2 -3 -3")...)
	upper := func(p api.Point) bool {
		above := rational.Sign(p.Y)
		return above > 0 || above == 0 && rational.Sign(p.X) > 0
	}
	for _, p := range l {
		for _, q := range l {
			n := plane.Around(p, q)
			if n != -plane.Around(q, p) || n == 0 && rational.Sign(plane.CrossProduct(p, q)) != 0 {
				t.Errorf("Around(%s, %s) = %d", show(p), show(q), n)
			}
			if p != plane.At(0, 0) && q != plane.At(0, 0) && upper(p) == upper(q) && n != rational.Sign(plane.CrossProduct(q, p)) {
				t.Errorf("Around(%s, %s) = %d, which does not agree with turning", show(p), show(q), n)
			}
			for _, r := range l {
				if n <= 0 && plane.Around(q, r) <= 0 && plane.Around(p, r) > 0 {
					t.Errorf("Around is not transitive: %s", show(p, q, r))
				}
			}
		}
	}
}

// Nothing is specified for points that are not canonical, but no function may panic or go on for ever.
func TestP1NotCanonical(t *testing.T) {
	one, zero := integer.FromInt(1), api.Int{Mag: "\x00"}
	numbers := []api.Rat{{}, {Num: one}, {Num: zero}, {Num: api.Int{Neg: true}}, {Num: one, Den: zero}, {Num: integer.FromInt(2), Den: integer.FromInt(-4)}, {Num: api.Int{Neg: true, Mag: "\x00\x00\x00\x00\x00\x00\x00\x00\x00\x05"}, Den: one}}
	var l []api.Point
	for _, x := range numbers {
		for _, y := range numbers {
			l = append(l, api.Point{X: x, Y: y})
		}
	}
	for k, p := range l {
		for n, q := range l {
			r := l[(3*k+5*n)%len(l)]
			s, u := api.Segment{A: p, B: q}, api.Segment{A: r, B: l[(k+n)%len(l)]}
			plane.Check(p)
			plane.Add(p, q)
			plane.Sub(p, q)
			plane.Scale(p, q.X)
			plane.Dot(p, q)
			plane.CrossProduct(p, q)
			plane.Compare(p, q)
			plane.Orientation(p, q, r)
			plane.Around(p, q)
			plane.OnSegment(r, s)
			plane.Meet(s, u)
			plane.Divide(s, r.Y)
			plane.Nearest(r, s)
			plane.Distance2(p, q)
			plane.PointSegment2(r, s)
			plane.Segments2(s, u)
			plane.Box([]api.Point{p, q, r})
		}
	}
}
