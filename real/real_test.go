package real_test

import (
	"math"
	"math/big"
	"strings"
	"testing"

	"viator/api"
	"viator/integer"
	"viator/rational"
	"viator/real"
)

// precision is the number of binary digits of approximations; the samples differ by far more than these leave open.
const precision = 1500

func rat(s string) api.Rat {
	r, e := rational.Parse(s)
	if e != api.OK {
		panic(s)
	}
	return r
}

// re returns the number with a string, which is read without Parse.
func re(s string) api.Real {
	before, behind, ok := strings.Cut(s, "sqrt(")
	if !ok {
		return api.Real{P: rat(s)}
	}
	last := len(before) - 1
	return api.Real{P: rat(before[:last]), R: rat(behind[:len(behind)-1]), Neg: before[last] == '-'}
}

func ratToFloat(r api.Rat) *big.Float {
	num := new(big.Float).SetPrec(precision).SetInt(new(big.Int).SetBytes([]byte(rational.Num(r).Mag)))
	den := new(big.Float).SetPrec(precision).SetInt(new(big.Int).SetBytes([]byte(rational.Den(r).Mag)))
	if rational.Sign(r) < 0 {
		num.Neg(num)
	}
	return num.Quo(num, den)
}

func toFloat(x api.Real) *big.Float {
	p, root := ratToFloat(x.P), new(big.Float).Sqrt(ratToFloat(x.R))
	if x.Neg {
		return p.Sub(p, root)
	}
	return p.Add(p, root)
}

// near tells whether two approximations may be of the same number.
func near(x, y *big.Float) bool {
	d := new(big.Float).Sub(x, y)
	scale := new(big.Float).Add(new(big.Float).Abs(x), big.NewFloat(1))
	return d.Abs(d).Cmp(scale.SetMantExp(scale, -1300)) < 0
}

// samples returns rational and irrational numbers, some of which differ by little.
func samples() []api.Real {
	list := []api.Real{
		re("0+sqrt(2)"), re("1000000000000/707106781187"), re("1414213562373095048801688724209698078569671875376948073176679737990732478462107038850387534327641572/1000000000000000000000000000000000000000000000000000000000000000000000000000000000000000000000000000"),
		re("0+sqrt(200000000000000000001/100000000000000000000)"), re("1000000000000-sqrt(999999999999999999999999)"), re("1000000000000-sqrt(1000000000000000000000001)"),
		re("-1000000000000+sqrt(999999999999999999999999)"), re("1/1000000000000"), re("99/70"), re("140/99"), re("1-sqrt(3)"), re("2-sqrt(3)"), re("-1/3+sqrt(1/2)"),
	}
	for _, p := range []string{"0", "1", "-1", "3/2", "-7/3", "100/7"} {
		list = append(list, re(p))
		for _, r := range []string{"2", "8", "1/2", "3", "12", "5/4", "10001/10000", "99"} {
			list = append(list, re(p+"+sqrt("+r+")"), re(p+"-sqrt("+r+")"))
		}
	}
	return list
}

func pairs(f func(x, y api.Real)) {
	list := samples()
	for _, x := range list {
		for _, y := range list {
			f(x, y)
		}
	}
}

func TestP3_1(t *testing.T) {
	n := integer.FromInt
	root := func(p, r string, neg bool) api.Real { return api.Real{P: rat(p), R: rat(r), Neg: neg} }
	for i, c := range []struct {
		x    api.Real
		want api.Errno
	}{
		{api.Real{}, api.OK}, {root("1", "2", true), api.OK}, {root("-1/2", "1/2", false), api.OK}, {root("0", "72", false), api.OK}, {root("5/3", "0", false), api.OK}, {root("0", "2/9", false), api.OK},
		{root("0", "4", false), api.ErrForm}, {root("0", "9/4", true), api.ErrForm}, {root("0", "1", false), api.ErrForm}, {root("1", "0", true), api.ErrForm}, {root("0", "0", true), api.ErrForm}, {root("0", "-2", false), api.ErrForm}, {root("0", "-1/4", false), api.ErrForm},
		{api.Real{P: api.Rat{Den: n(1)}}, api.ErrForm}, {api.Real{P: api.Rat{Num: n(2), Den: n(4)}, R: rat("2")}, api.ErrForm}, {api.Real{R: api.Rat{Num: n(4), Den: n(2)}}, api.ErrForm}, {api.Real{R: api.Rat{Num: api.Int{Mag: "\x00\x02"}}}, api.ErrForm},
		{api.Real{P: api.Rat{Num: api.Int{Neg: true}}}, api.ErrForm}, {api.Real{R: api.Rat{Num: n(1), Den: n(-2)}}, api.ErrForm},
	} {
		if e := real.Check(c.x); e != c.want {
			t.Errorf("%d: Check = %d; want %d", i, e, c.want)
		}
	}
	for _, x := range samples() {
		r, ok := real.Rational(x)
		if real.Check(x) != api.OK || ok != (x.R == api.Rat{}) || ok && r != x.P || !ok && r != (api.Rat{}) {
			t.Errorf("Check or Rational of %s", real.Print(x))
		}
	}
	if real.FromRat(rat("-3/2")) != (api.Real{P: rat("-3/2")}) || real.FromInt(-7) != (api.Real{P: rat("-7")}) || real.FromInt(math.MinInt) != (api.Real{P: rat("-9223372036854775808")}) || real.FromInt(0) != (api.Real{}) {
		t.Error("FromRat or FromInt")
	}
}

func TestP3_2(t *testing.T) {
	for _, c := range []struct{ p, q, r, want string }{
		{"0", "3", "8", "0+sqrt(72)"}, {"1/2", "-1", "9/4", "-1"}, {"1", "0", "5", "1"}, {"1", "5", "0", "1"}, {"1", "-5", "0", "1"}, {"1", "-2", "3", "1-sqrt(12)"}, {"0", "0", "0", "0"},
		{"0", "1/2", "2", "0+sqrt(1/2)"}, {"1/3", "-2/3", "1/4", "0"}, {"-2", "2", "1", "0"}, {"7", "3", "1/2", "7+sqrt(9/2)"},
	} {
		if x, e := real.Make(rat(c.p), rat(c.q), rat(c.r)); x != re(c.want) || e != api.OK {
			t.Errorf("Make(%s, %s, %s) = %s, %d", c.p, c.q, c.r, real.Print(x), e)
		}
	}
	for _, r := range []string{"-1", "-2", "-1/4"} {
		for _, q := range []string{"1", "0", "-1"} {
			if x, e := real.Make(rat("1"), rat(q), rat(r)); x != (api.Real{}) || e != api.ErrRange {
				t.Errorf("Make(1, %s, %s) = %v, %d", q, r, x, e)
			}
		}
	}
}

func TestP3_3Roots(t *testing.T) {
	for _, c := range []struct {
		c0, c1, c2 string
		want       []string
	}{
		{"-1", "-2", "1", []string{"1-sqrt(2)", "1+sqrt(2)"}}, {"1", "2", "-1", []string{"1-sqrt(2)", "1+sqrt(2)"}}, {"2", "-3", "1", []string{"1", "2"}}, {"-2", "3", "-1", []string{"1", "2"}},
		{"4", "-2", "0", []string{"2"}}, {"0", "5", "0", []string{"0"}}, {"1/2", "1/3", "0", []string{"-3/2"}}, {"9", "6", "1", []string{"-3"}}, {"0", "0", "-7", []string{"0"}}, {"0", "1", "1", []string{"-1", "0"}},
		{"1", "0", "1", nil}, {"-1", "0", "-1", nil}, {"5", "0", "0", nil}, {"-1/2", "0", "0", nil}, {"-1/2", "0", "3", []string{"0-sqrt(1/6)", "0+sqrt(1/6)"}}, {"-1", "0", "4", []string{"-1/2", "1/2"}},
	} {
		roots, e := real.Roots(api.Quad{C0: rat(c.c0), C1: rat(c.c1), C2: rat(c.c2)})
		if e != api.OK || len(roots) != len(c.want) {
			t.Errorf("Roots(%s, %s, %s) = %v, %d", c.c0, c.c1, c.c2, roots, e)
			continue
		}
		for i := range roots {
			if roots[i] != re(c.want[i]) {
				t.Errorf("Roots(%s, %s, %s)[%d] = %s", c.c0, c.c1, c.c2, i, real.Print(roots[i]))
			}
		}
	}
	if roots, e := real.Roots(api.Quad{}); len(roots) != 0 || e != api.ErrZero {
		t.Errorf("Roots of zero = %v, %d", roots, e)
	}
}

func TestP3_3Minimal(t *testing.T) {
	one := rat("1")
	for s, want := range map[string]api.Quad{
		"1-sqrt(2)": {C0: rat("-1"), C1: rat("-2"), C2: one}, "1+sqrt(2)": {C0: rat("-1"), C1: rat("-2"), C2: one}, "3/2": {C0: rat("-3/2"), C1: one}, "0": {C1: one}, "0-sqrt(1/2)": {C0: rat("-1/2"), C2: one},
	} {
		if q := real.Minimal(re(s)); q != want {
			t.Errorf("Minimal(%s) = %v", s, q)
		}
	}
	for _, x := range samples() {
		conjugate := x
		conjugate.Neg = !x.Neg && x.R != api.Rat{}
		want := []api.Real{real.Min(x, conjugate), real.Max(x, conjugate)}
		if x == conjugate {
			want = want[:1]
		}
		roots, e := real.Roots(real.Minimal(x))
		if e != api.OK || len(roots) != len(want) || roots[0] != want[0] || roots[len(roots)-1] != want[len(want)-1] {
			t.Errorf("Roots(Minimal(%s)) = %v, %d", real.Print(x), roots, e)
		}
	}
}

func TestP3_4(t *testing.T) {
	for _, x := range samples() {
		if real.Sign(x) != toFloat(x).Sign() {
			t.Errorf("Sign(%s) = %d", real.Print(x), real.Sign(x))
		}
	}
	pairs(func(x, y api.Real) {
		want := toFloat(x).Cmp(toFloat(y))
		if x == y {
			want = 0
		}
		if real.Compare(x, y) != want {
			t.Errorf("Compare(%s, %s) = %d", real.Print(x), real.Print(y), real.Compare(x, y))
		}
		if (x == y) != (want == 0) {
			t.Errorf("%s and %s are two forms of a number", real.Print(x), real.Print(y))
		}
		if r, ok := real.Rational(y); ok && real.CompareRat(x, r) != want {
			t.Errorf("CompareRat(%s, %s) = %d", real.Print(x), real.Print(y), real.CompareRat(x, r))
		}
		least, greatest := x, y
		if want > 0 {
			least, greatest = y, x
		}
		if real.Min(x, y) != least || real.Max(x, y) != greatest {
			t.Errorf("Min or Max of %s and %s", real.Print(x), real.Print(y))
		}
	})
}

// The roots have squares whose difference is made equal by the rational parts, up to little.
func TestP3_4CloseNumbers(t *testing.T) {
	for _, c := range []struct {
		x, y string
		want int
	}{
		{"1+sqrt(2)", "0+sqrt(6)", -1}, {"1+sqrt(2)", "0+sqrt(5)", 1}, {"1-sqrt(2)", "0-sqrt(1/5)", 1}, {"1-sqrt(2)", "0-sqrt(1/6)", -1}, {"3-sqrt(2)", "0+sqrt(3)", -1}, {"3-sqrt(2)", "0+sqrt(5/2)", 1},
		{"0+sqrt(2)", "0+sqrt(3)", -1}, {"0-sqrt(2)", "0-sqrt(3)", 1}, {"0-sqrt(2)", "0+sqrt(2)", -1}, {"5+sqrt(2)", "5-sqrt(2)", 1}, {"-3+sqrt(2)", "0-sqrt(3)", 1}, {"-3+sqrt(2)", "0-sqrt(5/2)", -1},
		{"0+sqrt(2)", "3/2", -1}, {"0+sqrt(2)", "7/5", 1}, {"0-sqrt(2)", "-3/2", 1}, {"1/2", "1/3", 1}, {"2-sqrt(3)", "0", 1}, {"0", "1-sqrt(3)", 1},
	} {
		x, y := re(c.x), re(c.y)
		if real.Compare(x, y) != c.want || real.Compare(y, x) != -c.want {
			t.Errorf("Compare(%s, %s) = %d", c.x, c.y, real.Compare(x, y))
		}
	}
}

func TestP3_5(t *testing.T) {
	factors := []string{"0", "1", "-1", "2", "-3", "1/2", "-5/7", "100000000000000000000"}
	for _, x := range samples() {
		f := toFloat(x)
		if y := real.Neg(x); real.Check(y) != api.OK || !near(toFloat(y), new(big.Float).Neg(f)) {
			t.Errorf("Neg(%s) = %s", real.Print(x), real.Print(y))
		}
		for _, s := range factors {
			r := rat(s)
			if y := real.Shift(x, r); real.Check(y) != api.OK || !near(toFloat(y), new(big.Float).Add(f, ratToFloat(r))) {
				t.Errorf("Shift(%s, %s) = %s", real.Print(x), s, real.Print(y))
			}
			if y := real.Scale(x, r); real.Check(y) != api.OK || !near(toFloat(y), new(big.Float).Mul(f, ratToFloat(r))) {
				t.Errorf("Scale(%s, %s) = %s", real.Print(x), s, real.Print(y))
			}
		}
		y, e := real.Inverse(x)
		if x == (api.Real{}) {
			if y != (api.Real{}) || e != api.ErrZero {
				t.Errorf("Inverse(0) = %v, %d", y, e)
			}
			continue
		}
		if e != api.OK || real.Check(y) != api.OK || !near(new(big.Float).Mul(toFloat(y), f), big.NewFloat(1)) {
			t.Errorf("Inverse(%s) = %s, %d", real.Print(x), real.Print(y), e)
		}
	}
	inverse, _ := real.Inverse(re("1+sqrt(2)"))
	if inverse != re("-1+sqrt(2)") || real.Scale(re("0+sqrt(2)"), rat("-3")) != re("0-sqrt(18)") || real.Scale(re("1-sqrt(2)"), rat("-2")) != re("-2+sqrt(8)") || real.Neg(re("3/2")) != re("-3/2") || real.Shift(re("1-sqrt(2)"), rat("1/2")) != re("3/2-sqrt(2)") {
		t.Error("the form of a result")
	}
}

func TestP3_6(t *testing.T) {
	for _, x := range samples() {
		floor, ceil := api.Rat{Num: real.Floor(x)}, api.Rat{Num: real.Ceil(x)}
		f := toFloat(x)
		low, high := ratToFloat(floor), ratToFloat(ceil)
		below, above := new(big.Float).Sub(f, low), new(big.Float).Sub(high, f)
		one := big.NewFloat(1)
		if below.Sign() < 0 || below.Cmp(one) >= 0 || above.Sign() < 0 || above.Cmp(one) >= 0 {
			t.Errorf("Floor and Ceil of %s are %s and %s", real.Print(x), rational.Print(floor), rational.Print(ceil))
		}
	}
	for s, want := range map[string][2]int{"0+sqrt(2)": {1, 2}, "0-sqrt(2)": {-2, -1}, "3": {3, 3}, "-3": {-3, -3}, "-5/2": {-3, -2}, "1-sqrt(1/2)": {0, 1}, "0-sqrt(1/2)": {-1, 0}, "1/2+sqrt(2)": {1, 2}, "0": {0, 0}} {
		if real.Floor(re(s)) != integer.FromInt(want[0]) || real.Ceil(re(s)) != integer.FromInt(want[1]) {
			t.Errorf("Floor(%s) = %s, Ceil = %s", s, integer.Print(real.Floor(re(s))), integer.Print(real.Ceil(re(s))))
		}
	}
}

func TestP3_7Between(t *testing.T) {
	for _, c := range []struct{ x, y, want string }{
		{"0+sqrt(2)", "3/2", "10/7"}, {"-1/2", "1/2", "0"}, {"1", "2", "3/2"}, {"-9", "-2", "-3"}, {"2", "9", "3"}, {"0", "9", "1"}, {"-9", "0", "-1"}, {"0", "1", "1/2"}, {"-1", "0", "-1/2"},
		{"0", "0+sqrt(1/2)", "1/2"}, {"0", "0+sqrt(1/50)", "1/8"}, {"0-sqrt(1/50)", "0", "-1/8"}, {"-3/2", "0-sqrt(2)", "-10/7"}, {"1-sqrt(2)", "0+sqrt(2)", "0"}, {"7/5", "0+sqrt(2)", "24/17"},
		{"0+sqrt(2)", "0+sqrt(3)", "3/2"}, {"0+sqrt(3)", "2", "7/4"}, {"99/70", "0+sqrt(200000000000000000001/100000000000000000000)", ""},
	} {
		r, e := real.Between(re(c.x), re(c.y))
		if c.want == "" {
			if r != (api.Rat{}) || e != api.ErrOrder {
				t.Errorf("Between(%s, %s) = %s, %d", c.x, c.y, rational.Print(r), e)
			}
		} else if r != rat(c.want) || e != api.OK {
			t.Errorf("Between(%s, %s) = %s, %d; want %s", c.x, c.y, rational.Print(r), e, c.want)
		}
	}
	pairs(func(x, y api.Real) {
		r, e := real.Between(x, y)
		if real.Compare(x, y) >= 0 {
			if r != (api.Rat{}) || e != api.ErrOrder {
				t.Errorf("Between(%s, %s) = %s, %d", real.Print(x), real.Print(y), rational.Print(r), e)
			}
			return
		}
		if e != api.OK || real.CompareRat(x, r) >= 0 || real.CompareRat(y, r) <= 0 {
			t.Errorf("Between(%s, %s) = %s, %d", real.Print(x), real.Print(y), rational.Print(r), e)
		}
		testLeast(t, x, y, r)
	})
}

// testLeast complains if a fraction between x and y has a lesser denominator than r, or the same one and a lesser magnitude. Large denominators are not tried.
func testLeast(t *testing.T, x, y api.Real, r api.Rat) {
	t.Helper()
	den, ok := integer.ToInt(rational.Den(r))
	if !ok {
		den = math.MaxInt
	}
	for d := 1; d <= min(den, 60); d++ {
		scale := rational.FromInt(d)
		// The multiples of 1/d that come first behind x, and that come last before y: between these is the one with the least magnitude.
		first, _ := rational.Div(api.Rat{Num: real.Floor(real.Scale(x, scale))}, scale)
		step, _ := rational.FromInts(1, d)
		first = rational.Add(first, step)
		last, _ := rational.Div(api.Rat{Num: real.Ceil(real.Scale(y, scale))}, scale)
		last = rational.Sub(last, step)
		if rational.Compare(first, last) > 0 {
			continue
		}
		best := rational.Min(rational.Max(first, rat("0")), last)
		if best != r {
			t.Errorf("Between(%s, %s) = %s; %s is simpler", real.Print(x), real.Print(y), rational.Print(r), rational.Print(best))
		}
		return
	}
	if den <= 60 {
		t.Errorf("Between(%s, %s) = %s, which is not between", real.Print(x), real.Print(y), rational.Print(r))
	}
}

func TestP3_7Enclose(t *testing.T) {
	for _, x := range samples() {
		for _, bits := range []int{0, 1, 2, 7, 8, 9, 64, 255, real.MaxBits} {
			low, high, e := real.Enclose(x, bits)
			scale := new(big.Float).SetMantExp(big.NewFloat(1).SetPrec(precision), bits)
			f := new(big.Float).Mul(toFloat(x), scale)
			l, h := new(big.Float).Mul(ratToFloat(low), scale), new(big.Float).Mul(ratToFloat(high), scale)
			one := big.NewFloat(1)
			good := multiple(low, bits) && multiple(high, bits) && e == api.OK && rational.Check(low) == api.OK && rational.Check(high) == api.OK
			if !good || real.CompareRat(x, low) < 0 || real.CompareRat(x, high) > 0 || l.Sub(f, l).Cmp(one) >= 0 || h.Sub(h, f).Cmp(one) >= 0 {
				t.Errorf("Enclose(%s, %d) = %s, %s, %d", real.Print(x), bits, rational.Print(low), rational.Print(high), e)
			}
		}
	}
	for _, c := range []struct {
		x         string
		bits      int
		low, high string
	}{{"0+sqrt(2)", 2, "5/4", "3/2"}, {"3/4", 1, "1/2", "1"}, {"3/4", 2, "3/4", "3/4"}, {"1", 0, "1", "1"}, {"0-sqrt(2)", 0, "-2", "-1"}, {"-1/3", 3, "-3/8", "-1/4"}, {"0", 256, "0", "0"}} {
		if low, high, e := real.Enclose(re(c.x), c.bits); low != rat(c.low) || high != rat(c.high) || e != api.OK {
			t.Errorf("Enclose(%s, %d) = %s, %s, %d", c.x, c.bits, rational.Print(low), rational.Print(high), e)
		}
	}
	for _, bits := range []int{-1, 257, math.MinInt, math.MaxInt} {
		if low, high, e := real.Enclose(re("1"), bits); low != (api.Rat{}) || high != (api.Rat{}) || e != api.ErrRange {
			t.Errorf("Enclose with %d = %v, %v, %d", bits, low, high, e)
		}
	}
}

// multiple tells whether a fraction is a multiple of 1 / 2^bits.
func multiple(r api.Rat, bits int) bool {
	scale := integer.FromInt(1)
	for range bits {
		scale = integer.Add(scale, scale)
	}
	return rational.Den(rational.Mul(r, api.Rat{Num: scale})) == integer.FromInt(1)
}

func TestP3_8(t *testing.T) {
	for _, x := range samples() {
		s := real.Print(x)
		if re(s) != x {
			t.Errorf("Print = %s", s)
		}
		if y, e := real.Parse(s); y != x || e != api.OK {
			t.Errorf("Parse(%s) = %v, %d", s, y, e)
		}
	}
	for s, want := range map[string]api.Real{"1/2-sqrt(3)": {P: rat("1/2"), R: rat("3"), Neg: true}, "0+sqrt(2/3)": {R: rat("2/3")}, "-7": {P: rat("-7")}, "-1/2+sqrt(5)": {P: rat("-1/2"), R: rat("5")}, "0": {}} {
		if real.Print(want) != s {
			t.Errorf("Print = %s; want %s", real.Print(want), s)
		}
		if x, e := real.Parse(s); x != want || e != api.OK {
			t.Errorf("Parse(%s) = %v, %d", s, x, e)
		}
	}
	for _, s := range []string{
		"", "-", "sqrt(2)", "+sqrt(2)", "-sqrt(2)", "1+sqrt(4)", "1+sqrt(9/4)", "1+sqrt(0)", "1+sqrt(-2)", "1-sqrt(0)", "2/4", "-0", "00", "01", "1/1", "2/1", "0/2", "1/0", "1/-2", "+1", "1 ", " 1", "1/", "/2", "1/2/3",
		"1sqrt(2)", "1*sqrt(2)", "1+sqrt(2", "1+sqrt2", "1+sqrt(2))", "1+sqrt()", "1+sqrt(2)+sqrt(3)", "1+sqrt(4/2)", "1++sqrt(2)", "1-+sqrt(2)", "1+-sqrt(2)", "1--sqrt(2)", "2/4+sqrt(2)", "1+Sqrt(2)", "1+sqrt(02)", "01+sqrt(2)", "1+sqrt(2)x", "-0+sqrt(2)",
		"x", "1\xff", "\u0661", strings.Repeat("0", 100), strings.Repeat("1", 63) + "/2", strings.Repeat("1", 63) + "-2", strings.Repeat("-", 5000), "1/" + strings.Repeat("2", 64) + "/3",
	} {
		want := api.ErrSyntax
		if s == strings.Repeat("1", 63)+"/2" {
			want = api.OK
		}
		if x, e := real.Parse(s); e != want || e != api.OK && x != (api.Real{}) {
			t.Errorf("Parse(%.80q) = %v, %d", s, x, e)
		}
	}
}

func TestP3_8ManyDigits(t *testing.T) {
	num, den := strings.Repeat("7", 1020), "1"+strings.Repeat("0", 1010)
	for _, s := range []string{num, "-" + num, num + "/" + den, "-" + num + "/" + den + "-sqrt(" + den + "/" + num + ")"} {
		x, e := real.Parse(s)
		if e != api.OK || real.Print(x) != s || real.Check(x) != api.OK {
			t.Errorf("Parse of %d bytes: %d", len(s), e)
		}
	}
	for _, s := range []string{"0" + num, num + "x", num + "/" + num, num + "-" + num, num + "/" + den + "/1", num + "/" + den + "1/1", "1+sqrt(" + den + ")"} {
		if x, e := real.Parse(s); x != (api.Real{}) || e != api.ErrSyntax {
			t.Errorf("Parse of %d bytes that are no number: %d", len(s), e)
		}
	}
}

func TestP3_9(t *testing.T) {
	list := samples()
	for _, x := range list {
		for _, y := range list {
			order := real.Compare(x, y)
			for _, z := range list[:20] {
				if order <= 0 && real.Compare(y, z) <= 0 && real.Compare(x, z) > 0 {
					t.Fatal("not transitive", real.Print(x), real.Print(y), real.Print(z))
				}
			}
			if real.Compare(real.Neg(x), real.Neg(y)) != -order || real.Compare(real.Shift(x, rat("-7/3")), real.Shift(y, rat("-7/3"))) != order || real.Compare(real.Scale(x, rat("2/9")), real.Scale(y, rat("2/9"))) != order {
				t.Errorf("Neg, Shift or Scale of %s and %s", real.Print(x), real.Print(y))
			}
		}
		if real.Compare(real.FromRat(api.Rat{Num: real.Floor(x)}), x) > 0 || real.Compare(real.FromRat(api.Rat{Num: real.Ceil(x)}), x) < 0 {
			t.Errorf("Floor or Ceil of %s", real.Print(x))
		}
		if back := real.Shift(real.Shift(x, rat("5/6")), rat("-5/6")); back != x {
			t.Errorf("Shift of %s and back is %s", real.Print(x), real.Print(back))
		}
		if inverse, e := real.Inverse(x); e == api.OK {
			if back, _ := real.Inverse(inverse); back != x || real.Sign(inverse) != real.Sign(x) {
				t.Errorf("Inverse of %s and back is %s", real.Print(x), real.Print(back))
			}
		}
	}
}

// Each root makes its quadratic zero: the value at P + sqrt(R) is u + v*sqrt(R) with rational u and v.
func TestP3_9RootsAreZeros(t *testing.T) {
	values := []string{"0", "1", "-1", "3", "-5", "1/2", "-7/3"}
	for _, c0 := range values {
		for _, c1 := range values {
			for _, c2 := range values {
				q := api.Quad{C0: rat(c0), C1: rat(c1), C2: rat(c2)}
				roots, _ := real.Roots(q)
				for i, x := range roots {
					square := rational.Add(rational.Mul(x.P, x.P), x.R)
					u := rational.Add(q.C0, rational.Add(rational.Mul(q.C1, x.P), rational.Mul(q.C2, square)))
					v := rational.Add(q.C1, rational.Mul(rational.Mul(rat("2"), q.C2), x.P))
					if u != (api.Rat{}) || x.R != (api.Rat{}) && v != (api.Rat{}) || real.Check(x) != api.OK || i > 0 && real.Compare(roots[i-1], x) >= 0 {
						t.Errorf("root %d of %s, %s, %s is %s", i, c0, c1, c2, real.Print(x))
					}
				}
			}
		}
	}
}
