package quadratic_test

import (
	"math/big"
	"slices"
	"strings"
	"testing"

	"viator/api"
	"viator/integer"
	"viator/quadratic"
	"viator/rational"
	"viator/real"
)

func rat(s string) api.Rat {
	r, e := rational.Parse(s)
	if e != api.OK {
		panic(s)
	}
	return r
}

func re(s string) api.Real {
	x, e := real.Parse(s)
	if e != api.OK {
		panic(s)
	}
	return x
}

// quad returns the function whose coefficients stand in a string, that of the lowest power first.
func quad(s string) api.Quad {
	c := strings.Fields(s)
	return api.Quad{C0: rat(c[0]), C1: rat(c[1]), C2: rat(c[2])}
}

func show(q api.Quad) string {
	return rational.Print(q.C0) + " " + rational.Print(q.C1) + " " + rational.Print(q.C2)
}

// toBig and fromBig lead to the fractions of the standard library and back; these are what results are compared with.
func toBig(a api.Rat) *big.Rat {
	x, ok := new(big.Rat).SetString(rational.Print(a))
	if !ok {
		panic(a)
	}
	return x
}

func fromBig(n *big.Rat) api.Rat { return rat(n.RatString()) }

func plus(list ...*big.Rat) *big.Rat {
	sum := new(big.Rat)
	for _, x := range list {
		sum.Add(sum, x)
	}
	return sum
}

func times(list ...*big.Rat) *big.Rat {
	product := big.NewRat(1, 1)
	for _, x := range list {
		product.Mul(product, x)
	}
	return product
}

// valueAt returns u and v for which u + v*sqrt(R) is the value of a function at P + sqrt(R).
func valueAt(q api.Quad, t api.Real) (u, v *big.Rat) {
	c0, c1, c2, p, r := toBig(q.C0), toBig(q.C1), toBig(q.C2), toBig(t.P), toBig(t.R)
	u = plus(c0, times(c1, p), times(c2, p, p), times(c2, r))
	v = plus(c1, times(big.NewRat(2, 1), c2, p))
	if t.Neg {
		v.Neg(v)
	}
	return u, v
}

// functions returns functions of all degrees, with no, one and two roots, which are rational or not.
func functions() []api.Quad {
	var list []api.Quad
	for _, s := range []string{
		"0 0 0", "1 0 0", "-2/3 0 0", "0 1 0", "1 -2 0", "-3/2 5/7 0", "7 -1/3 0",
		"0 0 1", "-2 0 1", "2 0 -1", "1 2 1", "-1 -2 -1", "1 0 1", "-1 1 -1", "2 -3 1", "-1 -2 1", "0 1 1", "0 -4 1", "1/2 1/3 -5/4", "-1/9 0 1/4",
		"-1000000000000000000001 1 1000000000000000000000", "1/100000000000000000000 -2 100000000000000000000", "-4 0 1", "-3 2 -2/5",
	} {
		list = append(list, quad(s))
	}
	return list
}

// instants returns instants in increasing order, among them roots of some functions, what lies closely beside them, and where functions turn.
func instants() []api.Real {
	list := []api.Real{
		re("-100"), re("0-sqrt(2)"), re("0+sqrt(2)"), re("1-sqrt(2)"), re("1+sqrt(2)"), re("1+sqrt(3)"), re("-1"), re("0"), re("1/2"), re("1"), re("3/2"), re("2"), re("4"),
		re("-2"), re("1767766952966368811/1250000000000000000"), re("2/3"), re("-2/3"), re("0+sqrt(200000000000000000001/100000000000000000000)"), re("5/2-sqrt(15/4)"), re("2/15+sqrt(94/225)"),
	}
	slices.SortFunc(list, real.Compare)
	return list
}

func TestP4_1Check(t *testing.T) {
	one := integer.FromInt(1)
	wrong := []api.Rat{{Num: one, Den: one}, {Num: integer.FromInt(2), Den: integer.FromInt(4)}, {Num: api.Int{Neg: true}}, {Num: api.Int{Mag: "\x00\x01"}}, {Num: one, Den: integer.FromInt(-2)}, {Den: integer.FromInt(3)}}
	for _, r := range wrong {
		for _, q := range []api.Quad{{C0: r}, {C1: r}, {C2: r}, {C0: r, C1: r, C2: r}, {C0: rat("1"), C1: rat("1/2"), C2: r}} {
			if e := quadratic.Check(q); e != api.ErrForm {
				t.Errorf("Check(%v) = %d", q, e)
			}
		}
	}
	for _, q := range functions() {
		if e := quadratic.Check(q); e != api.OK {
			t.Errorf("Check(%s) = %d", show(q), e)
		}
	}
}

func TestP4_1Degree(t *testing.T) {
	for s, want := range map[string]int{"0 0 0": -1, "5 0 0": 0, "-1/2 0 0": 0, "0 3 0": 1, "5 -3/2 0": 1, "0 0 1": 2, "0 1 -1/7": 2, "5 0 2": 2, "5 1 2": 2} {
		if d := quadratic.Degree(quad(s)); d != want {
			t.Errorf("Degree(%s) = %d", s, d)
		}
	}
}

func TestP4_1Linear(t *testing.T) {
	for _, c0 := range []string{"0", "1", "-3/7"} {
		if q := quadratic.Constant(rat(c0)); q != quad(c0+" 0 0") {
			t.Errorf("Constant(%s) = %s", c0, show(q))
		}
		for _, c1 := range []string{"0", "5", "-1/2"} {
			if q := quadratic.Linear(rat(c0), rat(c1)); q != quad(c0+" "+c1+" 0") {
				t.Errorf("Linear(%s, %s) = %s", c0, c1, show(q))
			}
		}
	}
}

func TestP4_1Between(t *testing.T) {
	for _, c := range []struct{ t, v, u, w, want string }{
		{"1", "2", "3", "3", "3/2 1/2 0"}, {"3", "3", "1", "2", "3/2 1/2 0"}, {"0", "0", "1", "1", "0 1 0"}, {"-2", "5", "7", "5", "5 0 0"}, {"1/2", "1/3", "5/2", "-1/3", "1/2 -1/3 0"}, {"0", "0", "5", "0", "0 0 0"},
	} {
		q, e := quadratic.Between(rat(c.t), rat(c.v), rat(c.u), rat(c.w))
		if q != quad(c.want) || e != api.OK {
			t.Errorf("Between(%s, %s, %s, %s) = %s, %d", c.t, c.v, c.u, c.w, show(q), e)
		}
	}
	for _, w := range []string{"0", "2", "3/2"} {
		if q, e := quadratic.Between(rat("7/3"), rat("2"), rat("7/3"), rat(w)); q != (api.Quad{}) || e != api.ErrZero {
			t.Errorf("Between with one instant = %s, %d", show(q), e)
		}
	}
}

// fractions returns arguments for functions of fractions.
func fractions() []api.Rat {
	var list []api.Rat
	for _, s := range []string{"0", "1", "-1", "2", "-5/3", "7/1000000007", "-100000000000000000000"} {
		list = append(list, rat(s))
	}
	return list
}

func TestP4_2(t *testing.T) {
	for _, p := range functions() {
		p0, p1, p2 := toBig(p.C0), toBig(p.C1), toBig(p.C2)
		two := big.NewRat(2, 1)
		if d := quadratic.Derivative(p); d != (api.Quad{C0: p.C1, C1: fromBig(times(two, p2))}) {
			t.Errorf("Derivative(%s) = %s", show(p), show(d))
		}
		for _, r := range fractions() {
			by := toBig(r)
			scaled := api.Quad{C0: fromBig(times(p0, by)), C1: fromBig(times(p1, by)), C2: fromBig(times(p2, by))}
			if s := quadratic.Scale(p, r); s != scaled {
				t.Errorf("Scale(%s, %s) = %s", show(p), by, show(s))
			}
			// p(t - by), with the brackets resolved.
			back := new(big.Rat).Neg(by)
			shifted := api.Quad{C0: fromBig(plus(p0, times(p1, back), times(p2, by, by))), C1: fromBig(plus(p1, times(two, p2, back))), C2: p.C2}
			if s := quadratic.Shift(p, r); s != shifted {
				t.Errorf("Shift(%s, %s) = %s", show(p), by, show(s))
			}
		}
		for _, q := range functions() {
			q0, q1, q2 := toBig(q.C0), toBig(q.C1), toBig(q.C2)
			sum := api.Quad{C0: fromBig(plus(p0, q0)), C1: fromBig(plus(p1, q1)), C2: fromBig(plus(p2, q2))}
			if s := quadratic.Add(p, q); s != sum {
				t.Errorf("Add(%s, %s) = %s", show(p), show(q), show(s))
			}
			if d := quadratic.Sub(sum, q); d != p {
				t.Errorf("Sub(%s, %s) = %s", show(sum), show(q), show(d))
			}
		}
	}
}

func TestP4_2Mul(t *testing.T) {
	for _, p := range functions() {
		for _, q := range functions() {
			m, e := quadratic.Mul(p, q)
			if p != (api.Quad{}) && q != (api.Quad{}) && quadratic.Degree(p)+quadratic.Degree(q) > 2 {
				if m != (api.Quad{}) || e != api.ErrRange {
					t.Errorf("Mul(%s, %s) = %s, %d", show(p), show(q), show(m), e)
				}
				continue
			}
			p0, p1, p2, q0, q1, q2 := toBig(p.C0), toBig(p.C1), toBig(p.C2), toBig(q.C0), toBig(q.C1), toBig(q.C2)
			want := api.Quad{C0: fromBig(times(p0, q0)), C1: fromBig(plus(times(p0, q1), times(p1, q0))), C2: fromBig(plus(times(p0, q2), times(p1, q1), times(p2, q0)))}
			if m != want || e != api.OK {
				t.Errorf("Mul(%s, %s) = %s, %d", show(p), show(q), show(m), e)
			}
		}
	}
}

func TestP4_3(t *testing.T) {
	for _, q := range functions() {
		for _, r := range fractions() {
			want, _ := valueAt(q, real.FromRat(r))
			if v := quadratic.Eval(q, r); v != fromBig(want) {
				t.Errorf("Eval(%s, %s) = %s", show(q), rational.Print(r), rational.Print(v))
			}
		}
		for _, x := range instants() {
			u, v := valueAt(q, x)
			want, _ := real.Make(fromBig(u), fromBig(v), x.R)
			if y := quadratic.At(q, x); y != want {
				t.Errorf("At(%s, %s) = %s; want %s", show(q), real.Print(x), real.Print(y), real.Print(want))
			}
			if s := quadratic.SignAt(q, x); s != real.Sign(want) {
				t.Errorf("SignAt(%s, %s) = %d", show(q), real.Print(x), s)
			}
		}
	}
	for _, c := range []struct {
		q, t, want string
		sign       int
	}{
		{"-2 0 1", "0+sqrt(2)", "0", 0}, {"-2 0 1", "0-sqrt(2)", "0", 0}, {"-2 0 1", "1+sqrt(3)", "2+sqrt(12)", 1}, {"0 -1 0", "1-sqrt(3)", "-1+sqrt(3)", 1}, {"0 0 -1", "0+sqrt(5)", "-5", -1}, {"-1 -2 1", "1-sqrt(2)", "0", 0}, {"3 0 0", "1-sqrt(2)", "3", 1},
		{"0 1 1", "-1/2+sqrt(1/2)", "1/4", 1}, {"0 1 1", "-1/2-sqrt(1/8)", "-1/8", -1},
	} {
		if y, s := quadratic.At(quad(c.q), re(c.t)), quadratic.SignAt(quad(c.q), re(c.t)); y != re(c.want) || s != c.sign {
			t.Errorf("At(%s, %s) = %s, with the sign %d", c.q, c.t, real.Print(y), s)
		}
	}
}

func TestP4_4Reduce(t *testing.T) {
	for _, c := range []struct{ q, t, want string }{
		{"-2 0 1", "1+sqrt(3)", "0 2 0"}, {"-2 0 1", "1-sqrt(3)", "0 2 0"}, {"-2 0 1", "3", "7 0 0"}, {"0 0 1", "0+sqrt(2)", "2 0 0"}, {"5 3 0", "0+sqrt(2)", "5 3 0"}, {"5 0 0", "0+sqrt(2)", "5 0 0"}, {"0 0 0", "7", "0 0 0"}, {"-1 -2 1", "1+sqrt(2)", "0 0 0"},
		{"1 1/2 -3", "-1/3-sqrt(1/2)", "-1/6 5/2 0"}, {"1 1 1", "-1/2", "3/4 0 0"}, {"0 -2 1", "1+sqrt(7)", "6 0 0"},
	} {
		if r := quadratic.Reduce(quad(c.q), re(c.t)); r != quad(c.want) {
			t.Errorf("Reduce(%s, %s) = %s", c.q, c.t, show(r))
		}
	}
	for _, q := range functions() {
		for _, x := range instants() {
			r := quadratic.Reduce(q, x)
			degree := 1
			if _, ok := real.Rational(x); !ok {
				degree = 2
			}
			if quadratic.Degree(r) >= degree || quadratic.Check(r) != api.OK || quadratic.At(r, x) != quadratic.At(q, x) || quadratic.Reduce(r, x) != r {
				t.Errorf("Reduce(%s, %s) = %s", show(q), real.Print(x), show(r))
			}
		}
	}
}

func TestP4_4Same(t *testing.T) {
	for _, p := range functions() {
		for _, q := range functions() {
			for _, x := range instants() {
				same := quadratic.At(p, x) == quadratic.At(q, x)
				if quadratic.Same(p, q, x) != same || (quadratic.Reduce(p, x) == quadratic.Reduce(q, x)) != same {
					t.Errorf("Same(%s, %s, %s) is not %v", show(p), show(q), real.Print(x), same)
				}
			}
		}
		for _, x := range instants() {
			// Something with the root x that is added keeps the value there, and changes that at other instants.
			other := quadratic.Add(p, quadratic.Scale(real.Minimal(x), rat("-3/7")))
			if !quadratic.Same(p, other, x) || quadratic.Same(p, other, re("12345")) {
				t.Errorf("Same(%s, %s, ..)", show(p), show(other))
			}
		}
	}
}

func TestP4_5(t *testing.T) {
	for s, want := range map[string]string{
		"-2 0 1": "0-sqrt(2) 0+sqrt(2)", "1 2 1": "-1", "1 0 1": "", "1 -2 0": "1/2", "5 0 0": "", "2 -3 1": "1 2", "-2 3 -1": "1 2", "-1 -2 1": "1-sqrt(2) 1+sqrt(2)", "0 0 -7": "0", "0 1 1": "-1 0", "0 -3/2 0": "0", "-1/9 0 1/4": "-2/3 2/3",
	} {
		var list []api.Real
		for _, x := range strings.Fields(want) {
			list = append(list, re(x))
		}
		if roots, e := quadratic.Roots(quad(s)); !slices.Equal(roots, list) || e != api.OK {
			t.Errorf("Roots(%s) = %v, %d", s, roots, e)
		}
	}
	if roots, e := quadratic.Roots(api.Quad{}); len(roots) != 0 || e != api.ErrZero {
		t.Errorf("Roots(0) = %v, %d", roots, e)
	}
	for _, q := range functions() {
		if q == (api.Quad{}) {
			continue
		}
		roots, e := quadratic.Roots(q)
		discriminant := plus(times(toBig(q.C1), toBig(q.C1)), times(big.NewRat(-4, 1), toBig(q.C0), toBig(q.C2)))
		count := max(quadratic.Degree(q), 0)
		if count == 2 {
			count = 1 + discriminant.Sign()
		}
		if len(roots) != count || e != api.OK {
			t.Errorf("%s has %d roots, %d", show(q), len(roots), e)
		}
		for i, x := range roots {
			if quadratic.SignAt(q, x) != 0 || i > 0 && real.Compare(roots[i-1], x) >= 0 {
				t.Errorf("root %d of %s is %s", i, show(q), real.Print(x))
			}
		}
	}
}

func TestP4_8Values(t *testing.T) {
	list := functions()
	for _, x := range fractions() {
		for i, p := range list {
			q := list[(i+7)%len(list)]
			atP, atQ := quadratic.Eval(p, x), quadratic.Eval(q, x)
			for _, by := range fractions() {
				if quadratic.Eval(quadratic.Shift(p, by), rational.Add(x, by)) != atP || quadratic.Eval(quadratic.Scale(p, by), x) != rational.Mul(atP, by) {
					t.Errorf("Shift or Scale of %s", show(p))
				}
			}
			if quadratic.Eval(quadratic.Add(p, q), x) != rational.Add(atP, atQ) || quadratic.Eval(quadratic.Sub(p, q), x) != rational.Sub(atP, atQ) {
				t.Errorf("Add or Sub of %s and %s", show(p), show(q))
			}
			if m, e := quadratic.Mul(p, q); e == api.OK && quadratic.Eval(m, x) != rational.Mul(atP, atQ) {
				t.Errorf("Mul of %s and %s", show(p), show(q))
			}
		}
	}
}

// Nothing is specified for values that are not canonical, but no function may panic or go on for ever.
func TestP1NotCanonical(t *testing.T) {
	one, zero := integer.FromInt(1), api.Int{Mag: "\x00"}
	fractions := []api.Rat{{}, {Num: one}, {Num: zero}, {Num: api.Int{Neg: true}}, {Num: one, Den: zero}, {Num: one, Den: api.Int{Neg: true}}, {Num: integer.FromInt(2), Den: integer.FromInt(-4)}, {Num: api.Int{Neg: true, Mag: "\x00\x00\x00\x00\x00\x00\x00\x00\x00\x05"}, Den: one}, {Num: integer.FromInt(-4)}}
	for i, a := range fractions {
		for j, b := range fractions {
			for k, c := range fractions {
				q, p := api.Quad{C0: a, C1: b, C2: c}, api.Quad{C0: c, C1: a, C2: b}
				x, y := api.Real{P: a, R: b, Neg: i > j}, api.Real{P: c, R: a, Neg: j > k}
				in := api.Interval{From: x, To: y, OpenFrom: j > k}
				quadratic.Check(q)
				quadratic.Constant(a)
				quadratic.Linear(a, b)
				quadratic.Between(a, b, c, a)
				quadratic.Degree(q)
				quadratic.Add(p, q)
				quadratic.Sub(p, q)
				quadratic.Scale(p, c)
				quadratic.Mul(p, q)
				quadratic.Derivative(q)
				quadratic.Shift(q, a)
				quadratic.Eval(q, a)
				quadratic.At(q, x)
				quadratic.SignAt(q, x)
				quadratic.Reduce(q, x)
				quadratic.Same(p, q, x)
				quadratic.Roots(q)
				for _, in := range []api.Interval{in, {From: re("-9"), To: re("0+sqrt(2)")}} {
					quadratic.Signs(q, in)
					quadratic.Where(q, in, true, false, true)
					quadratic.Least(q, in)
					quadratic.Greatest(q, in)
				}
			}
		}
	}
}
