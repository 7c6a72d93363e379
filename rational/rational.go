// Package rational computes with fractions of any size. It is layer 2: see shared/doc/02-rational.md.
package rational

import (
	"cmp"

	"viator/api"
	"viator/integer"
)

// one is the denominator of integers.
var one = api.Int{Mag: "\x01"}

// Check returns ErrForm if a fraction is not in its canonical form.
func Check(a api.Rat) api.Errno {
	switch {
	case integer.Check(a.Num) != api.OK || integer.Check(a.Den) != api.OK:
		return api.ErrForm
	case isInteger(a):
		return api.OK
	case a.Den.Neg || a.Den == one || integer.Gcd(a.Num, a.Den) != one:
		return api.ErrForm
	}
	return api.OK
}

// isInteger tells whether a fraction is kept without a denominator.
func isInteger(a api.Rat) bool { return a.Den == api.Int{} }

// Make returns the fraction of two integers, FromInts that of two ints, and FromInt an int as a fraction.
func Make(num, den api.Int) (api.Rat, api.Errno) {
	if integer.Sign(den) == 0 {
		return api.Rat{}, api.ErrZero
	}
	if integer.Sign(den) < 0 {
		num, den = integer.Negate(num), integer.Negate(den)
	}
	divisor := common(num, den)
	return coprime(quotient(num, divisor), quotient(den, divisor)), api.OK
}

func FromInts(num, den int) (api.Rat, api.Errno) {
	return Make(integer.FromInt(num), integer.FromInt(den))
}

func FromInt(n int) api.Rat { return api.Rat{Num: integer.FromInt(n)} }

// quotient returns a / b for a divisor b of a.
func quotient(a, b api.Int) api.Int {
	if b == one {
		return a
	}
	q, _, _ := integer.DivMod(a, b)
	return q
}

// coprime returns the fraction of two integers without a common divisor; den is positive.
func coprime(num, den api.Int) api.Rat {
	if den == one {
		return api.Rat{Num: num}
	}
	return api.Rat{Num: num, Den: den}
}

// Num and Den return the numerator and the denominator, which is positive.
func Num(a api.Rat) api.Int { return a.Num }

func Den(a api.Rat) api.Int {
	if isInteger(a) {
		return one
	}
	return a.Den
}

// Add, Sub, Mul and Div return the sum, the difference, the product and the quotient of two fractions.
func Add(a, b api.Rat) api.Rat { return combine(a, b, integer.Add) }
func Sub(a, b api.Rat) api.Rat { return combine(a, b, integer.Sub) }

// combine returns the sum or the difference of two fractions, as that of the numerators of a common denominator.
func combine(a, b api.Rat, operation func(a, b api.Int) api.Int) api.Rat {
	if isInteger(a) && isInteger(b) {
		return api.Rat{Num: operation(a.Num, b.Num)}
	}
	denA, denB := Den(a), Den(b)
	shared := common(denA, denB)
	restA, restB := quotient(denA, shared), quotient(denB, shared)
	num := operation(times(a.Num, restB), times(b.Num, restA))
	// What divides num and the least common denominator divides shared, too: the greatest common divisor with this lesser number suffices.
	if shared != one {
		divisor := integer.Gcd(num, shared)
		num, denB = quotient(num, divisor), quotient(denB, divisor)
	}
	return coprime(num, times(restA, denB))
}

// times returns a product, of which one factor is often 1.
func times(a, b api.Int) api.Int {
	switch one {
	case a:
		return b
	case b:
		return a
	}
	return integer.Mul(a, b)
}

func Mul(a, b api.Rat) api.Rat {
	if isInteger(a) && isInteger(b) {
		return api.Rat{Num: integer.Mul(a.Num, b.Num)}
	}
	denA, denB := Den(a), Den(b)
	first, second := common(a.Num, denB), common(b.Num, denA)
	num := times(quotient(a.Num, first), quotient(b.Num, second))
	return coprime(num, times(quotient(denA, second), quotient(denB, first)))
}

// common returns the greatest common divisor of an integer and a denominator, which is often 1.
func common(a, den api.Int) api.Int {
	if den == one {
		return one
	}
	return integer.Gcd(a, den)
}

func Div(a, b api.Rat) (api.Rat, api.Errno) {
	if Sign(b) == 0 {
		return api.Rat{}, api.ErrZero
	}
	num := Den(b)
	if b.Num.Neg {
		num = integer.Negate(num)
	}
	return Mul(a, coprime(num, integer.Abs(b.Num))), api.OK
}

// Neg returns a fraction with the other sign, and Abs its magnitude.
func Neg(a api.Rat) api.Rat { return api.Rat{Num: integer.Negate(a.Num), Den: a.Den} }
func Abs(a api.Rat) api.Rat { return api.Rat{Num: integer.Abs(a.Num), Den: a.Den} }

// Compare returns -1, 0 or 1 as the first fraction is less than, equal to or greater than the second one, and Sign does so for a fraction and 0.
func Compare(a, b api.Rat) int {
	signA, signB := Sign(a), Sign(b)
	switch {
	case a == b:
		return 0
	case signA != signB:
		return cmp.Compare(signA, signB)
	case a.Den == b.Den:
		return integer.Compare(a.Num, b.Num)
	}
	return integer.Compare(times(a.Num, Den(b)), times(b.Num, Den(a)))
}

func Sign(a api.Rat) int { return integer.Sign(a.Num) }

// Min returns the lesser one of two fractions, and Max the greater one.
func Min(a, b api.Rat) api.Rat {
	if Compare(a, b) <= 0 {
		return a
	}
	return b
}

func Max(a, b api.Rat) api.Rat {
	if Compare(a, b) >= 0 {
		return a
	}
	return b
}

// Floor returns the greatest integer that is not greater than a fraction, and Ceil the least one that is not less.
func Floor(a api.Rat) api.Int {
	if isInteger(a) {
		return a.Num
	}
	q, _, _ := integer.DivMod(a.Num, a.Den)
	return q
}

func Ceil(a api.Rat) api.Int { return integer.Negate(Floor(Neg(a))) }

// Root returns the square root of a fraction that is the square of a fraction.
func Root(a api.Rat) (api.Rat, bool) {
	num, ok := integer.IsSquare(a.Num)
	if !ok {
		return api.Rat{}, false
	}
	den, ok := integer.IsSquare(Den(a))
	if !ok {
		return api.Rat{}, false
	}
	return coprime(num, den), true
}
