package enclosure_test

import (
	"math"
	"math/big"
	"testing"

	"viator/api"
	"viator/enclosure"
	"viator/integer"
	"viator/rational"
	"viator/real"
)

func rat(s string) api.Rat {
	r, e := rational.Parse(s)
	if e != api.OK {
		panic(s)
	}
	return r
}

func re(s string) api.Real {
	x, e := real.Parse(s)
	if e != api.OK {
		panic(s)
	}
	return x
}

func bound(low, high string) enclosure.Bound {
	return enclosure.Bound{Low: rat(low), High: rat(high)}
}

func show(b enclosure.Bound) string {
	return "[" + rational.Print(b.Low) + ", " + rational.Print(b.High) + "]"
}

// toBig and fromBig lead to the fractions of the standard library and back; these are what results are compared with.
func toBig(a api.Rat) *big.Rat {
	x, ok := new(big.Rat).SetString(rational.Print(a))
	if !ok {
		panic(a)
	}
	return x
}

func fromBig(n *big.Rat) api.Rat { return rat(n.RatString()) }

// expect complains unless a result is the least bound of some numbers.
func expect(t *testing.T, what string, got enclosure.Bound, numbers ...*big.Rat) {
	t.Helper()
	low, high := numbers[0], numbers[0]
	for _, x := range numbers {
		if x.Cmp(low) < 0 {
			low = x
		}
		if x.Cmp(high) > 0 {
			high = x
		}
	}
	want := enclosure.Bound{Low: fromBig(low), High: fromBig(high)}
	if got != want {
		t.Errorf("%s = %s; want %s", what, show(got), show(want))
	}
}

// fractions returns fractions in increasing order.
func fractions() []api.Rat {
	var list []api.Rat
	for _, s := range []string{"-1000000000000000000000", "-3", "-5/3", "-1", "-1/1000000007", "0", "1/3", "1", "2", "9/4", "100000000000000000000001/7"} {
		list = append(list, rat(s))
	}
	return list
}

// bounds returns the bounds between all fractions.
func bounds() []enclosure.Bound {
	var list []enclosure.Bound
	for i, low := range fractions() {
		for _, high := range fractions()[i:] {
			list = append(list, enclosure.Bound{Low: low, High: high})
		}
	}
	return list
}

func pairs(f func(a, b enclosure.Bound)) {
	list := bounds()
	for _, a := range list {
		for _, b := range list {
			f(a, b)
		}
	}
}

// numbers returns fractions of a bound, among them its ends and, if it is there, zero.
func numbers(b enclosure.Bound) []api.Rat {
	list := []api.Rat{b.Low, b.High}
	third, _ := rational.FromInts(1, 3)
	list = append(list, rational.Add(b.Low, rational.Mul(third, rational.Sub(b.High, b.Low))))
	if rational.Sign(b.Low) <= 0 && rational.Sign(b.High) >= 0 {
		list = append(list, api.Rat{})
	}
	return list
}

// reals returns irrational and rational numbers.
func reals() []api.Real {
	var list []api.Real
	for _, s := range []string{"0+sqrt(2)", "0-sqrt(2)", "1-sqrt(2)", "1/3+sqrt(3)", "-7/2-sqrt(1/5)", "1000000-sqrt(999999999999)", "0+sqrt(200000000000000000001/100000000000000000000)", "0", "3", "-5/3", "1/4"} {
		list = append(list, re(s))
	}
	return list
}

var wrongBits = []int{-1, 129, 256, math.MinInt, math.MaxInt}

func TestP5_1Check(t *testing.T) {
	one, two := integer.FromInt(1), integer.FromInt(2)
	for _, r := range []api.Rat{{Num: two, Den: two}, {Num: one, Den: one}, {Num: api.Int{Neg: true}}, {Num: api.Int{Mag: "\x00\x02"}}, {Den: two}, {Num: one, Den: integer.FromInt(-2)}} {
		for _, b := range []enclosure.Bound{{Low: r, High: r}, {Low: r, High: rat("9")}, {Low: rat("-9"), High: r}, {Low: r, High: rat("-9")}, {Low: rat("9"), High: r}} {
			if e := enclosure.Check(b); e != api.ErrForm {
				t.Errorf("Check(%v) = %d", b, e)
			}
		}
	}
	for i, low := range fractions() {
		for j, high := range fractions() {
			want := api.OK
			if i > j {
				want = api.ErrOrder
			}
			if e := enclosure.Check(enclosure.Bound{Low: low, High: high}); e != want {
				t.Errorf("Check of %s and %s = %d", rational.Print(low), rational.Print(high), e)
			}
		}
	}
}

func TestP5_1Of(t *testing.T) {
	for _, r := range fractions() {
		if b := enclosure.Exact(r); b != (enclosure.Bound{Low: r, High: r}) {
			t.Errorf("Exact(%s) = %s", rational.Print(r), show(b))
		}
	}
	for _, x := range reals() {
		for _, bits := range []int{0, 1, 2, 9, 127, enclosure.MaxBits} {
			b, e := enclosure.Of(x, bits)
			step := fromBig(new(big.Rat).SetFrac(big.NewInt(1), new(big.Int).Lsh(big.NewInt(1), uint(bits))))
			good := e == api.OK && b == enclosure.Exact(x.P)
			if _, ok := real.Rational(x); !ok {
				// Neighbouring multiples of the step, with the number between them.
				count, _ := rational.Div(b.Low, step)
				good = e == api.OK && enclosure.Width(b) == step && rational.Check(count) == api.OK && rational.Den(count) == integer.FromInt(1) && real.CompareRat(x, b.Low) > 0 && real.CompareRat(x, b.High) < 0
			}
			if !good {
				t.Errorf("Of(%s, %d) = %s, %d", real.Print(x), bits, show(b), e)
			}
		}
		for _, bits := range wrongBits {
			if b, e := enclosure.Of(x, bits); b != (enclosure.Bound{}) || e != api.ErrRange {
				t.Errorf("Of(%s, %d) = %s, %d", real.Print(x), bits, show(b), e)
			}
		}
	}
	for _, c := range []struct {
		x         string
		bits      int
		low, high string
	}{{"1-sqrt(2)", 2, "-1/2", "-1/4"}, {"1/3", 2, "1/3", "1/3"}, {"1/4", 0, "1/4", "1/4"}, {"0+sqrt(2)", 0, "1", "2"}, {"0+sqrt(2)", 3, "11/8", "3/2"}, {"0-sqrt(2)", 1, "-3/2", "-1"}} {
		if b, e := enclosure.Of(re(c.x), c.bits); b != bound(c.low, c.high) || e != api.OK {
			t.Errorf("Of(%s, %d) = %s, %d", c.x, c.bits, show(b), e)
		}
	}
}

func TestP5_2(t *testing.T) {
	pairs(func(a, b enclosure.Bound) {
		var sums, differences, products []*big.Rat
		for _, x := range numbers(a) {
			for _, y := range numbers(b) {
				sums = append(sums, new(big.Rat).Add(toBig(x), toBig(y)))
				differences = append(differences, new(big.Rat).Sub(toBig(x), toBig(y)))
				products = append(products, new(big.Rat).Mul(toBig(x), toBig(y)))
			}
		}
		expect(t, show(a)+" + "+show(b), enclosure.Add(a, b), sums...)
		expect(t, show(a)+" - "+show(b), enclosure.Sub(a, b), differences...)
		expect(t, show(a)+" * "+show(b), enclosure.Mul(a, b), products...)
	})
	for _, a := range bounds() {
		var opposites, squares []*big.Rat
		for _, x := range numbers(a) {
			opposites = append(opposites, new(big.Rat).Neg(toBig(x)))
			squares = append(squares, new(big.Rat).Mul(toBig(x), toBig(x)))
		}
		expect(t, "Neg of "+show(a), enclosure.Neg(a), opposites...)
		expect(t, "Square of "+show(a), enclosure.Square(a), squares...)
		for _, by := range fractions() {
			var multiples []*big.Rat
			for _, x := range numbers(a) {
				multiples = append(multiples, new(big.Rat).Mul(toBig(x), toBig(by)))
			}
			expect(t, "Scale of "+show(a)+" by "+rational.Print(by), enclosure.Scale(a, by), multiples...)
		}
	}
	if enclosure.Mul(bound("-2", "3"), bound("-1", "4")) != bound("-8", "12") || enclosure.Square(bound("-2", "3")) != bound("0", "9") || enclosure.Square(bound("-3", "2")) != bound("0", "9") || enclosure.Square(bound("-3", "-2")) != bound("4", "9") {
		t.Error("Mul or Square")
	}
}

func TestP5_3(t *testing.T) {
	pairs(func(a, b enclosure.Bound) {
		q, e := enclosure.Div(a, b)
		if rational.Sign(b.Low) <= 0 && rational.Sign(b.High) >= 0 {
			if q != (enclosure.Bound{}) || e != api.ErrZero {
				t.Errorf("%s / %s = %s, %d", show(a), show(b), show(q), e)
			}
			return
		}
		var quotients []*big.Rat
		for _, x := range numbers(a) {
			for _, y := range numbers(b) {
				quotients = append(quotients, new(big.Rat).Quo(toBig(x), toBig(y)))
			}
		}
		expect(t, show(a)+" / "+show(b), q, quotients...)
		if e != api.OK {
			t.Errorf("%s / %s: %d", show(a), show(b), e)
		}
	})
	if q, e := enclosure.Div(bound("1", "2"), bound("-4", "-2")); q != bound("-1", "-1/4") || e != api.OK {
		t.Errorf("Div = %s, %d", show(q), e)
	}
}

func TestP5_4(t *testing.T) {
	for _, c := range []struct {
		low, high string
		bits      int
		l, h      string
	}{
		{"2", "2", 1, "1", "3/2"}, {"2", "2", 3, "11/8", "3/2"}, {"1/4", "9", 1, "1/2", "3"}, {"1/4", "9", 0, "0", "3"}, {"0", "0", 5, "0", "0"}, {"0", "1/1000", 0, "0", "1"}, {"1/9", "1/9", 2, "1/4", "1/2"}, {"1/9", "1/9", 0, "0", "1"}, {"9/4", "10/4", 1, "3/2", "2"}, {"0", "2", 2, "0", "3/2"},
	} {
		if s, e := enclosure.Sqrt(bound(c.low, c.high), c.bits); s != bound(c.l, c.h) || e != api.OK {
			t.Errorf("Sqrt([%s, %s], %d) = %s, %d", c.low, c.high, c.bits, show(s), e)
		}
	}
	for _, a := range bounds() {
		for _, bits := range []int{0, 1, 7, 64, enclosure.MaxBits} {
			s, e := enclosure.Sqrt(a, bits)
			if rational.Sign(a.Low) < 0 {
				if s != (enclosure.Bound{}) || e != api.ErrRange {
					t.Errorf("Sqrt(%s, %d) = %s, %d", show(a), bits, show(s), e)
				}
				continue
			}
			// Low = l / scale with l*l <= a.Low * scale*scale < (l+1)*(l+1), and High likewise.
			scale := new(big.Int).Lsh(big.NewInt(1), uint(bits))
			if e != api.OK || !isRootBelow(toBig(s.Low), toBig(a.Low), scale) || !isRootAbove(toBig(s.High), toBig(a.High), scale) {
				t.Errorf("Sqrt(%s, %d) = %s, %d", show(a), bits, show(s), e)
			}
		}
		for _, bits := range wrongBits {
			if s, e := enclosure.Sqrt(a, bits); s != (enclosure.Bound{}) || e != api.ErrRange {
				t.Errorf("Sqrt(%s, %d) = %s, %d", show(a), bits, show(s), e)
			}
		}
	}
}

// isRootBelow tells whether a number is the greatest multiple of 1 / scale whose square is at most x, and isRootAbove whether it is the least one, not negative, whose square is at least x.
func isRootBelow(root, x *big.Rat, scale *big.Int) bool {
	step := new(big.Rat).SetFrac(big.NewInt(1), scale)
	next := new(big.Rat).Add(root, step)
	return new(big.Rat).Quo(root, step).IsInt() && root.Sign() >= 0 && new(big.Rat).Mul(root, root).Cmp(x) <= 0 && next.Mul(next, next).Cmp(x) > 0
}

func isRootAbove(root, x *big.Rat, scale *big.Int) bool {
	step := new(big.Rat).SetFrac(big.NewInt(1), scale)
	before := new(big.Rat).Sub(root, step)
	return new(big.Rat).Quo(root, step).IsInt() && root.Sign() >= 0 && new(big.Rat).Mul(root, root).Cmp(x) >= 0 && (before.Sign() < 0 || before.Mul(before, before).Cmp(x) < 0)
}

func TestP5_5Contains(t *testing.T) {
	for _, a := range bounds() {
		low, high := toBig(a.Low), toBig(a.High)
		for _, r := range fractions() {
			want := low.Cmp(toBig(r)) <= 0 && toBig(r).Cmp(high) <= 0
			if enclosure.Contains(a, r) != want || enclosure.Holds(a, real.FromRat(r)) != want {
				t.Errorf("Contains or Holds of %s and %s is not %v", show(a), rational.Print(r), want)
			}
		}
		for _, x := range reals() {
			want := real.Compare(real.FromRat(a.Low), x) <= 0 && real.Compare(x, real.FromRat(a.High)) <= 0
			if enclosure.Holds(a, x) != want {
				t.Errorf("Holds(%s, %s) is not %v", show(a), real.Print(x), want)
			}
		}
		half := big.NewRat(1, 2)
		width, middle := new(big.Rat).Sub(high, low), new(big.Rat).Add(low, high)
		if enclosure.Width(a) != fromBig(width) || enclosure.Middle(a) != fromBig(middle.Mul(middle, half)) {
			t.Errorf("Width or Middle of %s", show(a))
		}
	}
	if enclosure.Holds(bound("-1", "7/5"), re("0+sqrt(2)")) || !enclosure.Holds(bound("7/5", "3/2"), re("0+sqrt(2)")) || enclosure.Holds(bound("3/2", "2"), re("0+sqrt(2)")) || enclosure.Contains(bound("1", "2"), rat("5/2")) {
		t.Error("Holds or Contains")
	}
}

func TestP5_5Sets(t *testing.T) {
	pairs(func(a, b enclosure.Bound) {
		inside, common := true, false
		for _, r := range fractions() {
			inA, inB := enclosure.Contains(a, r), enclosure.Contains(b, r)
			inside = inside && (!inA || inB)
			common = common || inA && inB
		}
		if enclosure.Within(a, b) != inside {
			t.Errorf("Within(%s, %s) is not %v", show(a), show(b), inside)
		}
		expect(t, "Hull", enclosure.Hull(a, b), toBig(a.Low), toBig(a.High), toBig(b.Low), toBig(b.High))
		i, ok := enclosure.Intersect(a, b)
		if ok != common || !ok && i != (enclosure.Bound{}) {
			t.Errorf("Intersect(%s, %s) = %s, %v", show(a), show(b), show(i), ok)
		}
		for _, r := range fractions() {
			if ok && enclosure.Contains(i, r) != (enclosure.Contains(a, r) && enclosure.Contains(b, r)) {
				t.Errorf("Intersect(%s, %s) = %s", show(a), show(b), show(i))
			}
		}
		if ok && enclosure.Check(i) != api.OK {
			t.Errorf("Intersect(%s, %s) = %s", show(a), show(b), show(i))
		}
	})
}

func TestP5_6(t *testing.T) {
	pairs(func(a, b enclosure.Bound) {
		want := enclosure.Unknown
		switch {
		case toBig(a.High).Cmp(toBig(b.Low)) < 0:
			want = enclosure.Less
		case toBig(a.Low).Cmp(toBig(b.High)) > 0:
			want = enclosure.Greater
		case a.Low == a.High && b.Low == b.High:
			want = enclosure.Equal
		}
		if c := enclosure.Compare(a, b); c != want {
			t.Errorf("Compare(%s, %s) = %d; want %d", show(a), show(b), c, want)
		}
	})
	for _, c := range []struct {
		a, b enclosure.Bound
		want int
	}{
		{bound("0", "1"), bound("2", "3"), -1}, {bound("2", "3"), bound("0", "1"), 1}, {bound("1", "1"), bound("1", "1"), 0}, {bound("0", "1"), bound("1", "2"), 2}, {bound("1", "2"), bound("0", "1"), 2}, {bound("0", "1"), bound("0", "1"), 2}, {bound("1", "1"), bound("1", "2"), 2}, {bound("0", "1"), bound("1", "1"), 2}, {bound("1", "1"), bound("2", "2"), -1},
	} {
		if n := enclosure.Compare(c.a, c.b); n != c.want {
			t.Errorf("Compare(%s, %s) = %d", show(c.a), show(c.b), n)
		}
	}
}

func TestP5_7(t *testing.T) {
	between := func(from, to string) api.Interval {
		return api.Interval{From: re(from), To: re(to), OpenTo: from != to}
	}
	for _, c := range []struct {
		l         []api.Interval
		bits      int
		low, high string
	}{
		{nil, 0, "0", "0"}, {[]api.Interval{}, 128, "0", "0"},
		{[]api.Interval{between("0", "0+sqrt(2)")}, 2, "5/4", "3/2"}, {[]api.Interval{between("0+sqrt(2)", "0+sqrt(3)")}, 0, "0", "1"}, {[]api.Interval{between("0+sqrt(2)", "0+sqrt(3)")}, 2, "0", "1/2"}, {[]api.Interval{between("0+sqrt(2)", "0+sqrt(2)")}, 1, "0", "1/2"},
		{[]api.Interval{between("0+sqrt(2)", "0+sqrt(3)"), between("2", "7/2")}, 0, "3/2", "5/2"}, {[]api.Interval{between("1/3", "1/2"), between("1", "1"), between("5", "7")}, 0, "13/6", "13/6"},
		{[]api.Interval{between("0-sqrt(3)", "0-sqrt(2)"), between("0-sqrt(2)", "1"), between("3/2", "0+sqrt(5)")}, 1, "5/2", "9/2"},
		{[]api.Interval{between("0", "0+sqrt(2)"), between("0", "0+sqrt(2)")}, 2, "5/2", "3"},
	} {
		if b, e := enclosure.Length(c.l, c.bits); b != bound(c.low, c.high) || e != api.OK {
			t.Errorf("Length(%v, %d) = %s, %d; want [%s, %s]", c.l, c.bits, show(b), e, c.low, c.high)
		}
		for _, bits := range wrongBits {
			if b, e := enclosure.Length(c.l, bits); b != (enclosure.Bound{}) || e != api.ErrRange {
				t.Errorf("Length(%v, %d) = %s, %d", c.l, bits, show(b), e)
			}
		}
	}
}

// An interval whose ends are in the wrong order contains nothing; all bounds that are returned are valid.
func TestP5_7WrongOrder(t *testing.T) {
	for _, x := range reals() {
		for _, y := range reals() {
			if b, e := enclosure.Length([]api.Interval{{From: x, To: y}}, 3); e != api.OK || enclosure.Check(b) != api.OK || rational.Sign(b.Low) < 0 {
				t.Errorf("Length from %s to %s = %s, %d", real.Print(x), real.Print(y), show(b), e)
			}
		}
	}
}

// What is in the arguments is in the results, and larger arguments have larger results.
func TestP5_8Operations(t *testing.T) {
	larger := func(b enclosure.Bound) enclosure.Bound {
		return enclosure.Bound{Low: rational.Sub(b.Low, rat("1/7")), High: rational.Add(b.High, rat("3"))}
	}
	pairs(func(a, b enclosure.Bound) {
		sum, product, difference := enclosure.Add(a, b), enclosure.Mul(a, b), enclosure.Sub(a, b)
		for _, x := range numbers(a) {
			for _, y := range numbers(b) {
				if !enclosure.Contains(sum, rational.Add(x, y)) || !enclosure.Contains(product, rational.Mul(x, y)) || !enclosure.Contains(difference, rational.Sub(x, y)) {
					t.Errorf("results of %s and %s", show(a), show(b))
				}
				if enclosure.Compare(a, b) == enclosure.Less && rational.Compare(x, y) >= 0 {
					t.Errorf("Compare(%s, %s)", show(a), show(b))
				}
			}
		}
		c, d := larger(a), larger(b)
		if !enclosure.Within(sum, enclosure.Add(c, d)) || !enclosure.Within(product, enclosure.Mul(c, d)) || !enclosure.Within(difference, enclosure.Sub(c, d)) || !enclosure.Within(enclosure.Square(a), enclosure.Square(c)) {
			t.Errorf("results of larger bounds than %s and %s", show(a), show(b))
		}
		small, e := enclosure.Div(a, b)
		large, f := enclosure.Div(c, d)
		if e == api.OK && f == api.OK && !enclosure.Within(small, large) {
			t.Errorf("quotient of larger bounds than %s and %s", show(a), show(b))
		}
	})
}

func TestP5_8Irrational(t *testing.T) {
	for _, bits := range []int{0, 1, 5, 40, 128} {
		step := fromBig(new(big.Rat).SetFrac(big.NewInt(1), new(big.Int).Lsh(big.NewInt(1), uint(bits))))
		for _, r := range fractions() {
			if rational.Sign(r) < 0 {
				continue
			}
			b, _ := enclosure.Sqrt(enclosure.Exact(r), bits)
			root, _ := real.Make(api.Rat{}, rat("1"), r)
			if !enclosure.Holds(b, root) || real.CompareRat(root, rational.Add(b.Low, step)) > 0 || real.CompareRat(root, rational.Sub(b.High, step)) < 0 {
				t.Errorf("Sqrt of %s with %d bits is %s", rational.Print(r), bits, show(b))
			}
		}
		for _, x := range reals() {
			for _, y := range reals() {
				if real.Compare(x, y) > 0 {
					continue
				}
				b, _ := enclosure.Length([]api.Interval{{From: x, To: y}}, bits)
				limit := rational.Add(step, step)
				if x.R == (api.Rat{}) && y.R == (api.Rat{}) {
					limit = api.Rat{}
				}
				if rational.Compare(enclosure.Width(b), limit) > 0 || !holdsDifference(b, x, y) {
					t.Errorf("Length from %s to %s with %d bits is %s", real.Print(x), real.Print(y), bits, show(b))
				}
			}
		}
	}
}

// holdsDifference tells whether y - x is in a bound: whether y is from x + Low to x + High.
func holdsDifference(b enclosure.Bound, x, y api.Real) bool {
	return real.Compare(real.Shift(x, b.Low), y) <= 0 && real.Compare(y, real.Shift(x, b.High)) <= 0
}

// Nothing is specified for values that are not canonical, but no function may panic or go on for ever.
func TestP1NotCanonical(t *testing.T) {
	one, zero := integer.FromInt(1), api.Int{Mag: "\x00"}
	fractions := []api.Rat{{}, {Num: one}, {Num: zero}, {Num: api.Int{Neg: true}}, {Num: one, Den: zero}, {Num: one, Den: api.Int{Neg: true}}, {Num: integer.FromInt(2), Den: integer.FromInt(-4)}, {Num: api.Int{Neg: true, Mag: "\x00\x00\x00\x00\x00\x00\x00\x00\x00\x05"}, Den: one}, {Num: integer.FromInt(-4)}}
	for i, low := range fractions {
		for j, high := range fractions {
			for _, other := range fractions {
				a, b := enclosure.Bound{Low: low, High: high}, enclosure.Bound{Low: high, High: other}
				x, y := api.Real{P: low, R: high, Neg: i > j}, api.Real{P: other, R: low, Neg: i < j}
				enclosure.Check(a)
				enclosure.Exact(low)
				enclosure.Of(x, 3)
				enclosure.Neg(a)
				enclosure.Add(a, b)
				enclosure.Sub(a, b)
				enclosure.Mul(a, b)
				enclosure.Scale(a, other)
				enclosure.Square(a)
				enclosure.Div(a, b)
				enclosure.Sqrt(a, 128)
				enclosure.Contains(a, other)
				enclosure.Holds(a, y)
				enclosure.Within(a, b)
				enclosure.Width(a)
				enclosure.Middle(a)
				enclosure.Hull(a, b)
				enclosure.Intersect(a, b)
				enclosure.Compare(a, b)
				enclosure.Length([]api.Interval{{From: x, To: y}, {From: y, To: x}}, 7)
			}
		}
	}
}
