package linear_test

import (
	"slices"
	"strings"
	"testing"

	"viator/api"
	"viator/linear"
	"viator/notation"
	"viator/plane"
	"viator/quadratic"
	"viator/rational"
	"viator/real"
	"viator/surd"
)

// The strings of the tests are those of package notation.
var (
	rat   = notation.Rat
	re    = notation.Real
	reals = notation.Reals
)

// line returns the moving point with coordinates like "0,2 5,-1/3".
func line(s string) api.Line {
	c := strings.FieldsFunc(s, func(r rune) bool { return r == ',' || r == ' ' })
	return api.Line{X0: rat(c[0]), X1: rat(c[1]), Y0: rat(c[2]), Y1: rat(c[3])}
}

func point(x, y string) api.Point { return api.Point{X: rat(x), Y: rat(y)} }

// lines contains moving points, instants rational instants, and roots others.
func lines() []api.Line {
	var l []api.Line
	for _, s := range []string{"0,0 0,0", "3,0 -4,0", "0,2 5,-1/3", "1/2,-1 0,7", "-9,1 1,1", "100000000000000000000,1/3 0,-2"} {
		l = append(l, line(s))
	}
	return l
}

func instants() []api.Rat {
	return []api.Rat{rat("0"), rat("1"), rat("-3/7"), rat("12345678901234567890")}
}

func roots() []api.Real { return []api.Real{re("0+sqrt(2)"), re("1-sqrt(1/3)"), re("-2+sqrt(5)")} }

func TestAt(t *testing.T) {
	f := line("1,2 5,-1/3")
	if p := linear.AtRat(f, rat("3/2")); p != point("4", "9/2") {
		t.Errorf("AtRat = %v", p)
	}
	if p := linear.At(f, re("1-sqrt(2)")); p != (api.RealPoint{X: re("3-sqrt(8)"), Y: re("14/3+sqrt(2/9)")}) {
		t.Errorf("At = %v", p)
	}
	if v := linear.Velocity(f); v != point("2", "-1/3") {
		t.Errorf("Velocity = %v", v)
	}
	for _, f := range lines() {
		x, y := linear.Coordinates(f)
		if linear.Point(x, y) != f || x != quadratic.Linear(f.X0, f.X1) || y != quadratic.Linear(f.Y0, f.Y1) {
			t.Errorf("the coordinates of %v are %v and %v", f, x, y)
		}
		for _, at := range instants() {
			p, q := linear.AtRat(f, at), linear.At(f, real.FromRat(at))
			if q != (api.RealPoint{X: real.FromRat(p.X), Y: real.FromRat(p.Y)}) || p != plane.Add(begin(f), plane.Scale(linear.Velocity(f), at)) {
				t.Errorf("%v is at %v and %v", f, p, q)
			}
		}
		for _, at := range roots() {
			if p := linear.At(f, at); p != (api.RealPoint{X: quadratic.At(x, at), Y: quadratic.At(y, at)}) {
				t.Errorf("%v is at %v", f, p)
			}
		}
	}
}

// begin returns where a moving point is at 0.
func begin(f api.Line) api.Point { return api.Point{X: f.X0, Y: f.Y0} }

func TestBetween(t *testing.T) {
	p, q := point("1", "-2"), point("5/2", "7")
	for _, c := range [][2]string{{"0", "1"}, {"1", "0"}, {"-3/7", "12345678901234567890"}} {
		from, to := rat(c[0]), rat(c[1])
		f, e := linear.Between(from, p, to, q)
		if e != api.OK || linear.AtRat(f, from) != p || linear.AtRat(f, to) != q {
			t.Errorf("Between(%s, %s) = %v, %d", c[0], c[1], f, e)
		}
	}
	if f, e := linear.Between(rat("1"), p, rat("1"), q); e != api.ErrZero || f != (api.Line{}) {
		t.Errorf("Between at one instant = %v, %d", f, e)
	}
	if f := linear.Fixed(q); f != line("5/2,0 7,0") {
		t.Errorf("Fixed = %v", f)
	}
}

func TestMoved(t *testing.T) {
	by := point("-2", "1/3")
	for _, f := range lines() {
		for _, at := range instants() {
			for _, later := range instants() {
				if p := linear.AtRat(linear.Shift(f, later), rational.Add(at, later)); p != linear.AtRat(f, at) {
					t.Errorf("Shift(%v) is at %v", f, p)
				}
			}
			if p := linear.AtRat(linear.Translate(f, by), at); p != plane.Add(linear.AtRat(f, at), by) {
				t.Errorf("Translate(%v) is at %v", f, p)
			}
		}
	}
}

// Values of the operations are those of the operations of vectors.
func TestVectors(t *testing.T) {
	for _, f := range lines() {
		for _, g := range lines() {
			for _, at := range instants() {
				p, q := linear.AtRat(f, at), linear.AtRat(g, at)
				if linear.AtRat(linear.Add(f, g), at) != plane.Add(p, q) || linear.AtRat(linear.Sub(f, g), at) != plane.Sub(p, q) {
					t.Errorf("the sum or the difference of %v and %v at %s", f, g, rational.Print(at))
				}
				if quadratic.Eval(linear.Cross(f, g), at) != plane.CrossProduct(p, q) || quadratic.Eval(linear.Dot(f, g), at) != plane.Dot(p, q) {
					t.Errorf("a product of %v and %v at %s", f, g, rational.Print(at))
				}
			}
		}
	}
}

func TestTurn(t *testing.T) {
	for _, a := range lines() {
		for _, b := range lines() {
			for _, c := range lines() {
				for _, at := range instants() {
					got := rational.Sign(quadratic.Eval(linear.Turn(a, b, c), at))
					if want := plane.Orientation(linear.AtRat(a, at), linear.AtRat(b, at), linear.AtRat(c, at)); got != want {
						t.Errorf("Turn(%v, %v, %v) at %s has the sign %d; want %d", a, b, c, rational.Print(at), got, want)
					}
				}
			}
		}
	}
}

// A point at the same height as vertices, and to the left of some of them, is tried as well as others.
func TestSurrounds(t *testing.T) {
	comb := notation.Rings("0:0 8:0 8,1:4 6:1,1 4:4 2:1,1 0,-1:4")[0]
	rings := [][]api.Line{comb, nil}
	for k := range len(comb) { // begun at each vertex, and backwards
		turned := append(append([]api.Line{}, comb[k:]...), comb[:k]...)
		back := append([]api.Line{}, turned...)
		slices.Reverse(back)
		rings = append(rings, turned, back)
	}
	checked := 0
	for _, ring := range rings {
		for _, at := range reals("0 1 1/3 0+sqrt(2) 1-sqrt(1/5)") {
			var spots []surd.Spot
			for _, v := range ring {
				spots = append(spots, surd.Position(v, at))
			}
			for x := -2; x <= 20; x++ {
				for y := -1; y <= 9; y++ {
					half := rat("1/2")
					p := linear.Fixed(api.Point{X: rational.Mul(rational.FromInt(x), half), Y: rational.Mul(rational.FromInt(y), half)})
					if isOn(surd.Position(p, at), spots) {
						continue
					}
					checked++
					if got, want := linear.Surrounds(ring, p, linear.SignsAt(at)), surd.Within(surd.Position(p, at), spots); got != want {
						t.Errorf("Surrounds(%s; %v) at %s = %v", notation.ShowRings([][]api.Line{ring}), p, real.Print(at), got)
					}
				}
			}
		}
	}
	if checked < 10000 {
		t.Errorf("%d points only", checked)
	}
}

// isOn tells whether a position is on a ring.
func isOn(p surd.Spot, ring []surd.Spot) bool {
	for k, a := range ring {
		toA, toB := a.Minus(p), ring[(k+1)%len(ring)].Minus(p)
		if surd.Cross(toA, toB).Sign() == 0 && surd.Dot(toA, toB).Sign() <= 0 {
			return true
		}
	}
	return false
}

func TestSignsAt(t *testing.T) {
	for _, at := range append(roots(), re("0"), re("5/2")) {
		sign := linear.SignsAt(at)
		for _, s := range []string{"0", "-1/2", "0,1", "-2,0,1", "1,2,-3"} {
			if q := notation.Quad(s); sign(q) != quadratic.SignAt(q, at) {
				t.Errorf("the sign of %s at %s is %d", s, real.Print(at), sign(q))
			}
		}
	}
}
