package rational_test

import (
	"math"
	"math/big"
	"math/rand"
	"strings"
	"testing"

	"viator/api"
	"viator/integer"
	"viator/rational"
)

// rat returns the fraction that a string denotes.
func rat(s string) api.Rat {
	a, e := rational.Parse(s)
	if e != api.OK {
		panic(s)
	}
	return a
}

// toBig and fromBig lead to the fractions of the standard library and back; these are what results are compared with.
func toBig(a api.Rat) *big.Rat {
	num, den := new(big.Int).SetBytes([]byte(a.Num.Mag)), big.NewInt(1)
	if a.Num.Neg {
		num.Neg(num)
	}
	if a.Den.Mag != "" {
		den.SetBytes([]byte(a.Den.Mag))
	}
	return new(big.Rat).SetFrac(num, den)
}

func fromBigInt(n *big.Int) api.Int {
	return api.Int{Neg: n.Sign() < 0, Mag: string(n.Bytes())}
}

func fromBig(n *big.Rat) api.Rat {
	if n.IsInt() {
		return api.Rat{Num: fromBigInt(n.Num())}
	}
	return api.Rat{Num: fromBigInt(n.Num()), Den: fromBigInt(n.Denom())}
}

func expect(t *testing.T, what string, got api.Rat, want *big.Rat) {
	t.Helper()
	if got != fromBig(want) {
		t.Errorf("%s = %s; want %s", what, rational.Print(got), want)
	}
}

// samples returns fractions with small and large parts, many of which share divisors.
func samples() []api.Rat {
	var list []api.Rat
	for num := int64(-6); num <= 6; num++ {
		for den := int64(1); den <= 6; den++ {
			list = append(list, fromBig(big.NewRat(num, den)))
		}
	}
	random := rand.New(rand.NewSource(1))
	for i := range 60 {
		limit := new(big.Int).Lsh(big.NewInt(1), uint(3+7*i))
		num := new(big.Int).Rand(random, limit)
		den := new(big.Int).Rand(random, limit)
		den.Add(den, big.NewInt(1))
		if i%3 == 0 {
			den.Exp(big.NewInt(6), big.NewInt(int64(i)), nil)
		}
		if i%2 == 0 {
			num.Neg(num)
		}
		list = append(list, fromBig(new(big.Rat).SetFrac(num, den)))
	}
	return list
}

func pairs(f func(a, b api.Rat)) {
	list := samples()
	for _, a := range list {
		for _, b := range list {
			f(a, b)
		}
	}
}

func TestP2_1Check(t *testing.T) {
	n := integer.FromInt
	for i, c := range []struct {
		a    api.Rat
		want api.Errno
	}{
		{api.Rat{}, api.OK}, {api.Rat{Num: n(-3), Den: n(2)}, api.OK}, {api.Rat{Num: n(7)}, api.OK}, {api.Rat{Num: n(1), Den: n(1 << 40)}, api.OK},
		{api.Rat{Num: n(4), Den: n(6)}, api.ErrForm}, {api.Rat{Num: n(3), Den: n(1)}, api.ErrForm}, {api.Rat{Den: n(2)}, api.ErrForm}, {api.Rat{Den: n(1)}, api.ErrForm},
		{api.Rat{Num: n(1), Den: n(-2)}, api.ErrForm}, {api.Rat{Num: n(1), Den: n(-1)}, api.ErrForm}, {api.Rat{Num: n(4), Den: n(2)}, api.ErrForm},
		{api.Rat{Num: api.Int{Neg: true}}, api.ErrForm}, {api.Rat{Num: api.Int{Mag: "\x00\x01"}}, api.ErrForm}, {api.Rat{Num: api.Int{Mag: "\x00"}}, api.ErrForm},
		{api.Rat{Num: n(1), Den: api.Int{Neg: true}}, api.ErrForm}, {api.Rat{Num: n(1), Den: api.Int{Mag: "\x00\x02"}}, api.ErrForm}, {api.Rat{Num: n(1), Den: api.Int{Mag: "\x00"}}, api.ErrForm},
	} {
		if e := rational.Check(c.a); e != c.want {
			t.Errorf("%d: Check = %d; want %d", i, e, c.want)
		}
	}
}

func TestP2_1Make(t *testing.T) {
	ints := []int{0, 1, -1, 2, -2, 3, 4, 6, -300, 1 << 40, math.MaxInt, math.MinInt, math.MinInt + 1}
	for _, num := range ints {
		expect(t, "FromInt", rational.FromInt(num), new(big.Rat).SetInt64(int64(num)))
		for _, den := range ints {
			a, e := rational.FromInts(num, den)
			b, f := rational.Make(integer.FromInt(num), integer.FromInt(den))
			if a != b || e != f {
				t.Errorf("FromInts and Make of %d and %d differ", num, den)
			}
			if den == 0 {
				if a != (api.Rat{}) || e != api.ErrZero {
					t.Errorf("FromInts(%d, 0) = %v, %d", num, a, e)
				}
				continue
			}
			expect(t, "FromInts", a, new(big.Rat).SetFrac(big.NewInt(int64(num)), big.NewInt(int64(den))))
			if e != api.OK {
				t.Errorf("FromInts(%d, %d): %d", num, den, e)
			}
		}
	}
	if a, _ := rational.FromInts(6, -4); a != (api.Rat{Num: integer.FromInt(-3), Den: integer.FromInt(2)}) {
		t.Error("6 / -4 is", a)
	}
	for _, a := range samples() {
		if rational.Num(a) != fromBigInt(toBig(a).Num()) || rational.Den(a) != fromBigInt(toBig(a).Denom()) {
			t.Errorf("Num or Den of %s", toBig(a))
		}
		if b, e := rational.Make(rational.Num(a), rational.Den(a)); b != a || e != api.OK || rational.Check(a) != api.OK {
			t.Errorf("Make of the parts of %s", toBig(a))
		}
	}
}

func TestP2_2(t *testing.T) {
	pairs(func(a, b api.Rat) {
		x, y := toBig(a), toBig(b)
		expect(t, "Add", rational.Add(a, b), new(big.Rat).Add(x, y))
		expect(t, "Sub", rational.Sub(a, b), new(big.Rat).Sub(x, y))
		expect(t, "Mul", rational.Mul(a, b), new(big.Rat).Mul(x, y))
		q, e := rational.Div(a, b)
		if y.Sign() == 0 {
			if q != (api.Rat{}) || e != api.ErrZero {
				t.Errorf("Div(%s, 0) = %v, %d", x, q, e)
			}
			return
		}
		expect(t, "Div", q, new(big.Rat).Quo(x, y))
		if e != api.OK {
			t.Errorf("Div(%s, %s): %d", x, y, e)
		}
	})
	for _, a := range samples() {
		expect(t, "Neg", rational.Neg(a), new(big.Rat).Neg(toBig(a)))
		expect(t, "Abs", rational.Abs(a), new(big.Rat).Abs(toBig(a)))
	}
}

func TestP2_3(t *testing.T) {
	pairs(func(a, b api.Rat) {
		want := toBig(a).Cmp(toBig(b))
		if rational.Compare(a, b) != want {
			t.Errorf("Compare(%s, %s) = %d", toBig(a), toBig(b), rational.Compare(a, b))
		}
		least, greatest := a, b
		if want > 0 {
			least, greatest = b, a
		}
		if rational.Min(a, b) != least || rational.Max(a, b) != greatest {
			t.Errorf("Min or Max of %s and %s", toBig(a), toBig(b))
		}
	})
	for _, a := range samples() {
		if rational.Sign(a) != toBig(a).Sign() {
			t.Errorf("Sign(%s) = %d", toBig(a), rational.Sign(a))
		}
	}
}

func TestP2_4(t *testing.T) {
	for _, a := range samples() {
		n := toBig(a)
		floor := new(big.Int).Div(n.Num(), n.Denom()) // Euclidean, and the denominator is positive
		ceil := new(big.Int).Neg(new(big.Int).Div(new(big.Int).Neg(n.Num()), n.Denom()))
		if rational.Floor(a) != fromBigInt(floor) || rational.Ceil(a) != fromBigInt(ceil) {
			t.Errorf("Floor or Ceil of %s", n)
		}
	}
	if rational.Floor(rat("-3/2")) != integer.FromInt(-2) || rational.Ceil(rat("-3/2")) != integer.FromInt(-1) || rational.Ceil(rat("-1/2")) != (api.Int{}) {
		t.Error("Floor or Ceil of a negative fraction")
	}
}

// simplestByTrial tries one denominator after the other.
func simplestByTrial(a, b *big.Rat, openA, openB bool) *big.Rat {
	for den := int64(1); ; den++ {
		var best *big.Rat
		for num := -7 * den; num <= 7*den; num++ {
			x := big.NewRat(num, den)
			low, high := a.Cmp(x), x.Cmp(b)
			inside := (low < 0 || low == 0 && !openA) && (high < 0 || high == 0 && !openB)
			if inside && (best == nil || new(big.Rat).Abs(x).Cmp(new(big.Rat).Abs(best)) < 0) {
				best = x
			}
		}
		if best != nil {
			return best
		}
	}
}

func TestP2_5(t *testing.T) {
	var list []*big.Rat
	for den := int64(1); den <= 7; den++ {
		for num := -3 * den; num <= 3*den; num++ {
			if x := big.NewRat(num, den); x.Denom().Int64() == den {
				list = append(list, x)
			}
		}
	}
	for _, a := range list {
		for _, b := range list {
			for flags := range 4 {
				openA, openB := flags&1 == 1, flags&2 == 2
				x, e := rational.Simplest(fromBig(a), fromBig(b), openA, openB)
				order := a.Cmp(b)
				if order > 0 || order == 0 && flags > 0 {
					if x != (api.Rat{}) || e != api.ErrEmpty {
						t.Errorf("Simplest(%s, %s, %v, %v) = %s, %d", a, b, openA, openB, rational.Print(x), e)
					}
					continue
				}
				expect(t, "Simplest("+a.String()+", "+b.String()+")", x, simplestByTrial(a, b, openA, openB))
				if e != api.OK {
					t.Errorf("Simplest(%s, %s): %d", a, b, e)
				}
			}
		}
	}
}

func TestP2_5LargeNumbers(t *testing.T) {
	for _, c := range []struct {
		a, b         string
		openA, openB bool
		want         string
	}{
		{"1/3", "1/2", true, true, "2/5"}, {"1/3", "1/2", false, false, "1/2"}, {"-1/2", "3", true, true, "0"}, {"-1/2", "0", true, true, "-1/3"},
		{"157/50", "63/20", false, false, "22/7"}, {"31415926/10000000", "31415927/10000000", false, false, "86953/27678"},
		{"10000000000000000000000/10000000000000000000001", "1", true, true, "10000000000000000000001/10000000000000000000002"},
		{"-1", "-10000000000000000000000/10000000000000000000001", true, false, "-10000000000000000000000/10000000000000000000001"},
		{"0", "1/10000000000000000000000", true, true, "1/10000000000000000000001"}, {"0", "1/10000000000000000000000", true, false, "1/10000000000000000000000"},
		{"5/2", "5/2", false, false, "5/2"}, {"-9", "-2", true, true, "-3"}, {"-9", "-2", true, false, "-2"},
	} {
		if x, e := rational.Simplest(rat(c.a), rat(c.b), c.openA, c.openB); rational.Print(x) != c.want || e != api.OK {
			t.Errorf("Simplest(%s, %s, %v, %v) = %s, %d; want %s", c.a, c.b, c.openA, c.openB, rational.Print(x), e, c.want)
		}
	}
}

func TestP2_6(t *testing.T) {
	for _, a := range samples() {
		if r, ok := rational.Root(rational.Mul(a, a)); r != rational.Abs(a) || !ok {
			t.Errorf("Root of the square of %s = %s, %v", rational.Print(a), rational.Print(r), ok)
		}
		if rational.Sign(a) == 0 {
			continue
		}
		if r, ok := rational.Root(rational.Neg(rational.Mul(a, a))); r != (api.Rat{}) || ok {
			t.Errorf("Root of a negative number = %s, %v", rational.Print(r), ok)
		}
		if r, ok := rational.Root(rational.Mul(rational.FromInt(2), rational.Mul(a, a))); r != (api.Rat{}) || ok {
			t.Errorf("Root of twice a square = %s, %v", rational.Print(r), ok)
		}
	}
	for s, want := range map[string]string{"9/4": "3/2", "0": "0", "1": "1", "2": "", "4/3": "", "3/4": "", "-4": "", "-1/4": "", "1/144": "1/12"} {
		r, ok := rational.Root(rat(s))
		if ok != (want != "") || ok && rational.Print(r) != want || !ok && r != (api.Rat{}) {
			t.Errorf("Root(%s) = %s, %v", s, rational.Print(r), ok)
		}
	}
}

func TestP2_7Print(t *testing.T) {
	for _, a := range samples() {
		want := toBig(a).RatString()
		if rational.Print(a) != want {
			t.Errorf("Print(%s) = %s", want, rational.Print(a))
		}
		if b, e := rational.Parse(want); b != a || e != api.OK {
			t.Errorf("Parse(%s) = %v, %d", want, b, e)
		}
	}
}

func TestP2_7Parse(t *testing.T) {
	zeros, nines := strings.Repeat("0", api.MaxText), strings.Repeat("9", api.MaxText)
	for _, c := range []struct {
		s, want string
		e       api.Errno
	}{
		{"-06/4", "-3/2", api.OK}, {"-0", "0", api.OK}, {"007", "7", api.OK}, {"0/5", "0", api.OK}, {"-0/05", "0", api.OK}, {"6/003", "2", api.OK}, {"1000", "1000", api.OK},
		{zeros, "0", api.OK}, {nines, nines, api.OK}, {"-" + nines[1:], "-" + nines[1:], api.OK}, {nines[:2047] + "/" + nines[:2048], "", api.OK},
		{zeros + "0", "", api.ErrLong}, {strings.Repeat("x", api.MaxText+1), "", api.ErrLong}, {"1/" + zeros, "", api.ErrLong},
		{"", "", api.ErrSyntax}, {"-", "", api.ErrSyntax}, {"--1", "", api.ErrSyntax}, {"1/", "", api.ErrSyntax}, {"/1", "", api.ErrSyntax}, {"-/1", "", api.ErrSyntax}, {"/", "", api.ErrSyntax},
		{"1/-2", "", api.ErrSyntax}, {"1//2", "", api.ErrSyntax}, {"1/2/3", "", api.ErrSyntax}, {"1/0/3", "", api.ErrSyntax}, {"+1", "", api.ErrSyntax}, {"1 ", "", api.ErrSyntax}, {" 1", "", api.ErrSyntax},
		{"1.5", "", api.ErrSyntax}, {"1_0", "", api.ErrSyntax}, {"\xff", "", api.ErrSyntax}, {"1\u0662", "", api.ErrSyntax}, {"1:", "", api.ErrSyntax}, {"x/0", "", api.ErrSyntax}, {"1/0x", "", api.ErrSyntax},
		{"7/0", "", api.ErrZero}, {"0/0", "", api.ErrZero}, {"-7/000", "", api.ErrZero},
	} {
		a, e := rational.Parse(c.s)
		if e != c.e || e != api.OK && a != (api.Rat{}) {
			t.Errorf("Parse(%.12q) = %v, %d; want %d", c.s, a, e, c.e)
		}
		if c.want != "" && rational.Print(a) != c.want {
			t.Errorf("Parse(%.12q) = %.20s; want %.20s", c.s, rational.Print(a), c.want)
		}
	}
	a, _ := rational.Parse(nines[:2047] + "/" + nines[:2048])
	want, _ := new(big.Rat).SetString(nines[:2047] + "/" + nines[:2048])
	expect(t, "Parse of a long fraction", a, want)
}

func TestP2_8(t *testing.T) {
	list := samples()
	random := rand.New(rand.NewSource(2))
	pick := func() api.Rat { return list[random.Intn(len(list))] }
	for range 3000 {
		a, b, c := pick(), pick(), pick()
		switch {
		case rational.Add(a, b) != rational.Add(b, a), rational.Mul(a, b) != rational.Mul(b, a):
			t.Fatal("not commutative", a, b)
		case rational.Add(rational.Add(a, b), c) != rational.Add(a, rational.Add(b, c)), rational.Mul(rational.Mul(a, b), c) != rational.Mul(a, rational.Mul(b, c)):
			t.Fatal("not associative", a, b, c)
		case rational.Mul(a, rational.Add(b, c)) != rational.Add(rational.Mul(a, b), rational.Mul(a, c)):
			t.Fatal("not distributive", a, b, c)
		case rational.Add(a, rational.Neg(a)) != api.Rat{}, rational.Compare(a, b) != rational.Sign(rational.Sub(a, b)), rational.Compare(a, b) != -rational.Compare(b, a):
			t.Fatal("opposites or order", a, b)
		case rational.Compare(a, b) <= 0 && rational.Compare(b, c) <= 0 && rational.Compare(a, c) > 0:
			t.Fatal("not transitive", a, b, c)
		case rational.Check(rational.Add(rational.Mul(a, b), c)) != api.OK:
			t.Fatal("a result is not canonical", a, b, c)
		}
		floor := api.Rat{Num: rational.Floor(a)}
		if rational.Compare(floor, a) > 0 || rational.Compare(a, rational.Add(floor, rational.FromInt(1))) >= 0 || rational.Ceil(a) != integer.Negate(rational.Floor(rational.Neg(a))) {
			t.Fatal("Floor or Ceil", a)
		}
		if b != (api.Rat{}) {
			if q, _ := rational.Div(a, b); rational.Mul(q, b) != a {
				t.Fatal("Div is not the inverse of Mul", a, b)
			}
		}
		x, e := rational.Simplest(rational.Min(a, b), rational.Max(a, b), false, false)
		if e != api.OK || rational.Compare(rational.Min(a, b), x) > 0 || rational.Compare(x, rational.Max(a, b)) > 0 || integer.Compare(rational.Den(x), rational.Den(a)) > 0 {
			t.Fatal("Simplest", a, b, x)
		}
	}
}
