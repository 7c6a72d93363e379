package integer_test

import (
	"math"
	"math/big"
	"math/rand"
	"strings"
	"testing"

	"viator/api"
	"viator/integer"
)

// toBig and fromBig lead to the numbers of the standard library and back; these are what results are compared with.
func toBig(a api.Int) *big.Int {
	n := new(big.Int).SetBytes([]byte(a.Mag))
	if a.Neg {
		n.Neg(n)
	}
	return n
}

func fromBig(n *big.Int) api.Int {
	return api.Int{Neg: n.Sign() < 0, Mag: string(n.Bytes())}
}

// expect complains unless a result is the canonical form of a number.
func expect(t *testing.T, what string, got api.Int, want *big.Int) {
	t.Helper()
	if got != fromBig(want) {
		t.Errorf("%s = %x (neg %v); want %s", what, got.Mag, got.Neg, want)
	}
}

// samples returns numbers around powers of the bases 2^8 and 2^64, and others whose digits are extreme or random, with both signs.
func samples() []api.Int {
	var list []api.Int
	add := func(n *big.Int) {
		list = append(list, fromBig(n), fromBig(new(big.Int).Neg(n)))
	}
	for _, bit := range []uint{0, 1, 7, 8, 16, 55, 56, 57, 63, 64, 65, 127, 128, 129, 192, 512, 1023, 1024, 1025, 1088} {
		power := new(big.Int).Lsh(big.NewInt(1), bit)
		for d := int64(-1); d <= 1; d++ {
			add(new(big.Int).Add(power, big.NewInt(d)))
		}
	}
	random := rand.New(rand.NewSource(1))
	words := []uint64{0, 1, 1 << 63, 1<<63 - 1, math.MaxUint64, math.MaxUint64 - 1}
	for i := range 80 {
		n := new(big.Int)
		for range 1 + i%20 {
			w := random.Uint64() >> random.Intn(60)
			if random.Intn(2) == 0 {
				w = words[random.Intn(len(words))]
			}
			n.Lsh(n, 64).Or(n, new(big.Int).SetUint64(w))
		}
		add(n)
	}
	return list
}

// pairs calls a function with all pairs of samples.
func pairs(f func(a, b api.Int)) {
	list := samples()
	for _, a := range list {
		for _, b := range list {
			f(a, b)
		}
	}
}

func TestP1_1Check(t *testing.T) {
	for _, c := range []struct {
		a    api.Int
		want api.Errno
	}{
		{api.Int{}, api.OK},
		{api.Int{Mag: "\x01"}, api.OK},
		{api.Int{Neg: true, Mag: "\x01\x00"}, api.OK},
		{api.Int{Neg: true}, api.ErrForm},
		{api.Int{Mag: "\x00"}, api.ErrForm},
		{api.Int{Mag: "\x00\x01"}, api.ErrForm},
		{api.Int{Neg: true, Mag: "\x00\xff"}, api.ErrForm},
	} {
		if e := integer.Check(c.a); e != c.want {
			t.Errorf("Check(%v %q) = %d; want %d", c.a.Neg, c.a.Mag, e, c.want)
		}
	}
}

func TestP1_1Ints(t *testing.T) {
	ints := []int{0, 1, -1, 255, 256, -300, math.MaxInt, math.MinInt, math.MinInt + 1, 1 << 56, -(1 << 56), 1<<56 - 1}
	for _, n := range ints {
		a := integer.FromInt(n)
		expect(t, "FromInt", a, big.NewInt(int64(n)))
		if m, ok := integer.ToInt(a); m != n || !ok {
			t.Errorf("ToInt(FromInt(%d)) = %d, %v", n, m, ok)
		}
	}
	if integer.FromInt(-300) != (api.Int{Neg: true, Mag: "\x01\x2c"}) {
		t.Error("FromInt(-300)")
	}
	for _, s := range []string{"9223372036854775808", "-9223372036854775809", "18446744073709551615", "18446744073709551616", "-18446744073709551616", "18446744073709551617"} {
		a, _ := integer.Parse(s)
		if n, ok := integer.ToInt(a); n != 0 || ok {
			t.Errorf("ToInt(%s) = %d, %v", s, n, ok)
		}
	}
}

func TestP1_2(t *testing.T) {
	for _, a := range samples() {
		n := toBig(a)
		if integer.Sign(a) != n.Sign() {
			t.Errorf("Sign(%s) = %d", n, integer.Sign(a))
		}
		if integer.Bits(a) != n.BitLen() {
			t.Errorf("Bits(%s) = %d", n, integer.Bits(a))
		}
	}
	pairs(func(a, b api.Int) {
		if integer.Compare(a, b) != toBig(a).Cmp(toBig(b)) {
			t.Errorf("Compare(%s, %s) = %d", toBig(a), toBig(b), integer.Compare(a, b))
		}
	})
	if integer.Bits(api.Int{}) != 0 || integer.Bits(integer.FromInt(-256)) != 9 || integer.Bits(integer.FromInt(1)) != 1 {
		t.Error("Bits of 0, -256 or 1")
	}
}

func TestP1_3(t *testing.T) {
	for _, a := range samples() {
		expect(t, "Negate", integer.Negate(a), new(big.Int).Neg(toBig(a)))
		expect(t, "Abs", integer.Abs(a), new(big.Int).Abs(toBig(a)))
	}
	pairs(func(a, b api.Int) {
		x, y := toBig(a), toBig(b)
		expect(t, "Add", integer.Add(a, b), new(big.Int).Add(x, y))
		expect(t, "Sub", integer.Sub(a, b), new(big.Int).Sub(x, y))
		expect(t, "Mul", integer.Mul(a, b), new(big.Int).Mul(x, y))
	})
	if integer.Mul(integer.FromInt(-300), integer.FromInt(7)) != (api.Int{Neg: true, Mag: "\x08\x34"}) {
		t.Error("-300 * 7")
	}
}

func TestP1_4(t *testing.T) {
	pairs(func(a, b api.Int) {
		q, r, e := integer.DivMod(a, b)
		if integer.Sign(b) == 0 {
			if q != (api.Int{}) || r != (api.Int{}) || e != api.ErrZero {
				t.Errorf("DivMod(%s, 0) = %v, %v, %d", toBig(a), q, r, e)
			}
			return
		}
		wantQ, wantR := new(big.Int).DivMod(toBig(a), toBig(b), new(big.Int))
		expect(t, "quotient", q, wantQ)
		expect(t, "remainder", r, wantR)
		if e != api.OK {
			t.Errorf("DivMod(%s, %s): %d", toBig(a), toBig(b), e)
		}
	})
	for _, c := range [][4]int{{-7, 2, -4, 1}, {-7, -2, 4, 1}, {7, -2, -3, 1}, {-6, 3, -2, 0}, {math.MinInt, 1, math.MinInt, 0}} {
		q, r, e := integer.DivMod(integer.FromInt(c[0]), integer.FromInt(c[1]))
		if q != integer.FromInt(c[2]) || r != integer.FromInt(c[3]) || e != api.OK {
			t.Errorf("DivMod(%d, %d) = %s, %s, %d", c[0], c[1], integer.Print(q), integer.Print(r), e)
		}
	}
}

// join returns the number with these digits in base 2^64, the most significant one first.
func join(digits ...uint64) *big.Int {
	n := new(big.Int)
	for _, d := range digits {
		n.Lsh(n, 64).Or(n, new(big.Int).SetUint64(d))
	}
	return n
}

// Digits of a quotient that are guessed from leading digits are wrong for extreme digits only, of which random numbers have too few.
func TestP1_4ExtremeDigits(t *testing.T) {
	extreme := []uint64{0, 1, 1<<63 - 1, 1 << 63, math.MaxUint64 - 1, math.MaxUint64}
	digits := func(i, n int) []uint64 {
		list := make([]uint64, n)
		for k := range n {
			list[k], i = extreme[i%6], i/6
		}
		return list
	}
	for i := range 6 * 6 * 6 * 6 {
		x := join(digits(i, 4)...)
		for k := range 6*6 + 6*6*6 {
			y := join(digits(k, 2)...)
			if k >= 6*6 {
				y = join(digits(k-6*6, 3)...)
			}
			if y.Sign() == 0 {
				continue
			}
			q, r, _ := integer.DivMod(fromBig(x), fromBig(y))
			wantQ, wantR := new(big.Int).QuoRem(x, y, new(big.Int))
			if q != fromBig(wantQ) || r != fromBig(wantR) {
				t.Fatalf("DivMod(%x, %x) = %x, %x", x, y, q.Mag, r.Mag)
			}
		}
	}
}

func TestP1_5(t *testing.T) {
	pairs(func(a, b api.Int) {
		x, y := new(big.Int).Abs(toBig(a)), new(big.Int).Abs(toBig(b))
		expect(t, "Gcd", integer.Gcd(a, b), new(big.Int).GCD(nil, nil, x, y))
	})
	if integer.Gcd(api.Int{}, api.Int{}) != (api.Int{}) || integer.Gcd(integer.FromInt(0), integer.FromInt(-6)) != integer.FromInt(6) || integer.Gcd(integer.FromInt(-12), integer.FromInt(18)) != integer.FromInt(6) {
		t.Error("Gcd of (0, 0), (0, -6) or (-12, 18)")
	}
	// Numbers with a common divisor, and neighbouring Fibonacci numbers times it, which need the most steps.
	random := rand.New(rand.NewSource(2))
	x, y := big.NewInt(1), big.NewInt(2)
	for range 1500 {
		x, y = y, new(big.Int).Add(x, y)
		factor := new(big.Int).Rand(random, new(big.Int).Lsh(big.NewInt(1), uint(1+random.Intn(300))))
		u, v := new(big.Int).Mul(x, factor), new(big.Int).Mul(y, factor)
		expect(t, "Gcd", integer.Gcd(fromBig(u), fromBig(v)), factor)
		u.Mul(u, new(big.Int).Rand(random, y))
		expect(t, "Gcd", integer.Gcd(fromBig(u), fromBig(v)), new(big.Int).GCD(nil, nil, u, v))
	}
}

// If several steps of Euclid's algorithm are made at once, the remainders are differences of multiples. For two numbers in the golden ratio the factors are Fibonacci numbers; the digits here make products with these end with ones, so that a carry from below runs through. A common divisor tells whether a remainder is wrong.
func TestP1_5Carries(t *testing.T) {
	fibonacci := []*big.Int{big.NewInt(0), big.NewInt(1)}
	for len(fibonacci) < 188 {
		n := len(fibonacci)
		fibonacci = append(fibonacci, new(big.Int).Add(fibonacci[n-1], fibonacci[n-2]))
	}
	base := join(1, 0)
	divisor := big.NewInt(1<<60 - 93)
	digit := func(k int) uint64 {
		inverse := new(big.Int).ModInverse(fibonacci[k], base)
		if inverse == nil {
			return math.MaxUint64
		}
		return inverse.Sub(base, inverse).Uint64()
	}
	number := func(top *big.Int, digit uint64) *big.Int {
		n := new(big.Int).Lsh(top, 192)
		n.Add(n, join(digit, math.MaxUint64, 0))
		rest := new(big.Int).Mod(n, divisor)
		return n.Add(n, rest.Sub(divisor, rest))
	}
	for i := 24; i < 50; i++ {
		for k := 24; k < 50; k++ {
			for n := 180; n < 187; n++ {
				x, y := number(fibonacci[n+1], digit(i)), number(fibonacci[n], digit(k))
				expect(t, "Gcd", integer.Gcd(fromBig(x), fromBig(y)), new(big.Int).GCD(nil, nil, x, y))
			}
		}
	}
}

func TestP1_6(t *testing.T) {
	for _, a := range samples() {
		for _, n := range []int{0, 1, 2, 3, 5, 6, 13, 63, 64} {
			p, e := integer.Pow(a, n)
			expect(t, "Pow", p, new(big.Int).Exp(toBig(a), big.NewInt(int64(n)), nil))
			if e != api.OK {
				t.Errorf("Pow with %d: %d", n, e)
			}
		}
	}
	for _, n := range []int{-1, 65, math.MinInt, math.MaxInt} {
		for _, a := range []api.Int{{}, integer.FromInt(1), integer.FromInt(-2)} {
			if p, e := integer.Pow(a, n); p != (api.Int{}) || e != api.ErrRange {
				t.Errorf("Pow with %d = %v, %d", n, p, e)
			}
		}
	}
}

func TestP1_7Sqrt(t *testing.T) {
	check := func(n *big.Int) {
		r, e := integer.Sqrt(fromBig(n))
		if n.Sign() < 0 {
			if r != (api.Int{}) || e != api.ErrRange {
				t.Errorf("Sqrt(%s) = %v, %d", n, r, e)
			}
			return
		}
		expect(t, "Sqrt", r, new(big.Int).Sqrt(n))
		if e != api.OK {
			t.Errorf("Sqrt(%s): %d", n, e)
		}
	}
	for i := int64(-2); i < 2000; i++ {
		check(big.NewInt(i))
	}
	for _, a := range samples() {
		n := toBig(a)
		check(n)
		square := new(big.Int).Mul(n, n)
		check(square)
		check(new(big.Int).Sub(square, big.NewInt(1)))
		check(new(big.Int).Add(square, big.NewInt(1)))
	}
}

func TestP1_7IsSquare(t *testing.T) {
	check := func(n *big.Int) {
		r, ok := integer.IsSquare(fromBig(n))
		want := new(big.Int)
		if n.Sign() >= 0 {
			want.Sqrt(n)
		}
		square := n.Cmp(new(big.Int).Mul(want, want)) == 0
		if !square {
			want.SetInt64(0)
		}
		expect(t, "IsSquare", r, want)
		if ok != square {
			t.Errorf("IsSquare(%s): %v", n, ok)
		}
	}
	for i := int64(-5); i < 70000; i++ {
		check(big.NewInt(i))
	}
	for _, a := range samples() {
		n := toBig(a)
		check(n)
		square := new(big.Int).Mul(n, n)
		check(square)
		check(new(big.Int).Neg(square))
		check(new(big.Int).Add(square, big.NewInt(64*255))) // the same remainders as those of a square
	}
}

func TestP1_8Parse(t *testing.T) {
	for _, a := range samples() {
		s := toBig(a).String()
		if integer.Print(a) != s {
			t.Errorf("Print(%s) = %s", s, integer.Print(a))
		}
		if b, e := integer.Parse(s); b != a || e != api.OK {
			t.Errorf("Parse(%s) = %v, %d", s, b, e)
		}
	}
	for _, s := range []string{"10000000000000000000", "9999999999999999999", "100000000000000000000000000000000000000", "-20000000000000000000000000000000000000000000000000000000000000001"} {
		if a, e := integer.Parse(s); e != api.OK || integer.Print(a) != s {
			t.Errorf("Print(Parse(%s)) = %s, %d", s, integer.Print(a), e)
		}
	}
}

func TestP1_8Errors(t *testing.T) {
	nines := strings.Repeat("9", integer.MaxDigits)
	for _, c := range []struct {
		s    string
		want api.Errno
	}{
		{"0", api.OK}, {"7", api.OK}, {"-10", api.OK}, {nines, api.OK}, {"-" + nines, api.OK},
		{"", api.ErrEmpty},
		{nines + "9", api.ErrLong}, {"-" + nines + "9", api.ErrLong}, {strings.Repeat("x", integer.MaxDigits+1), api.ErrLong},
		{"-" + strings.Repeat("-", integer.MaxDigits+1), api.ErrLong}, {strings.Repeat("0", integer.MaxDigits+1), api.ErrLong},
		{strings.Repeat("0", integer.MaxDigits), api.ErrSyntax}, {"-" + strings.Repeat("-", integer.MaxDigits), api.ErrSyntax},
		{"-", api.ErrSyntax}, {"--1", api.ErrSyntax}, {"-0", api.ErrSyntax}, {"00", api.ErrSyntax}, {"007", api.ErrSyntax}, {"-01", api.ErrSyntax},
		{"+1", api.ErrSyntax}, {" 1", api.ErrSyntax}, {"1 ", api.ErrSyntax}, {"1-", api.ErrSyntax}, {"1_0", api.ErrSyntax}, {"0x1", api.ErrSyntax}, {"1.0", api.ErrSyntax},
		{"1:", api.ErrSyntax}, {"/1", api.ErrSyntax}, {"\x00", api.ErrSyntax}, {"\xff", api.ErrSyntax}, {"\u0661", api.ErrSyntax},
	} {
		a, e := integer.Parse(c.s)
		if e != c.want || e != api.OK && a != (api.Int{}) || e == api.OK && integer.Print(a) != c.s {
			t.Errorf("Parse(%.12q) = %v, %d; want %d", c.s, a, e, c.want)
		}
	}
}

func TestP1_9(t *testing.T) {
	list := samples()
	random := rand.New(rand.NewSource(3))
	pick := func() api.Int { return list[random.Intn(len(list))] }
	for range 3000 {
		a, b, c := pick(), pick(), pick()
		switch {
		case integer.Add(a, b) != integer.Add(b, a), integer.Mul(a, b) != integer.Mul(b, a):
			t.Fatal("not commutative", a, b)
		case integer.Add(integer.Add(a, b), c) != integer.Add(a, integer.Add(b, c)), integer.Mul(integer.Mul(a, b), c) != integer.Mul(a, integer.Mul(b, c)):
			t.Fatal("not associative", a, b, c)
		case integer.Mul(a, integer.Add(b, c)) != integer.Add(integer.Mul(a, b), integer.Mul(a, c)):
			t.Fatal("not distributive", a, b, c)
		case integer.Add(a, integer.Negate(a)) != api.Int{}, integer.Add(a, api.Int{}) != a, integer.Mul(a, integer.FromInt(1)) != a:
			t.Fatal("neutral elements", a)
		case integer.Compare(a, b) != integer.Sign(integer.Sub(a, b)), integer.Compare(a, b) != -integer.Compare(b, a):
			t.Fatal("order", a, b)
		case integer.Compare(a, b) <= 0 && integer.Compare(integer.Add(a, c), integer.Add(b, c)) > 0:
			t.Fatal("the order does not agree with Add", a, b, c)
		}
		if e := integer.Check(integer.Sub(integer.Mul(a, b), c)); e != api.OK {
			t.Fatal("a result is not canonical", a, b, c)
		}
		if d, e := integer.Parse(integer.Print(a)); d != a || e != api.OK {
			t.Fatal("Parse(Print(a)) is not a", a)
		}
	}
}
