// Package real contains numbers p + sqrt(r) and p - sqrt(r) with rational p and r: their canonical form, comparison, roots of quadratics, and rational numbers near and between them. It is layer 3: see shared/doc/03-real.md.
package real

import (
	"viator/api"
	"viator/integer"
	"viator/rational"
)

// MaxBits is the greatest number of binary digits of Enclose.
const MaxBits = 256

// Check returns the error of a number that is not in canonical form.
func Check(x api.Real) api.Errno {
	switch {
	case rational.Check(x.P) != api.OK || rational.Check(x.R) != api.OK:
		return api.ErrForm
	case isRational(x):
		if x.Neg {
			return api.ErrForm
		}
		return api.OK
	case rational.Sign(x.R) < 0:
		return api.ErrForm
	}
	if _, ok := rational.Root(x.R); ok {
		return api.ErrForm
	}
	return api.OK
}

func isRational(x api.Real) bool { return x.R == api.Rat{} }

// FromRat and FromInt return rational numbers, and Rational the rational number that a number is.
func FromRat(r api.Rat) api.Real { return api.Real{P: r} }
func FromInt(n int) api.Real     { return FromRat(rational.FromInt(n)) }

func Rational(x api.Real) (api.Rat, bool) {
	if !isRational(x) {
		return api.Rat{}, false
	}
	return x.P, true
}

// Make returns the number p + q*sqrt(r).
func Make(p, q, r api.Rat) (api.Real, api.Errno) {
	if rational.Sign(r) < 0 {
		return api.Real{}, api.ErrRange
	}
	square := rational.Mul(rational.Mul(q, q), r)
	return sum(p, rational.Sign(q), square), api.OK
}

// sum returns p + sqrt(r), or p - sqrt(r) if the sign is negative, for any r that is not negative.
func sum(p api.Rat, sign int, r api.Rat) api.Real {
	root, ok := rational.Root(r)
	switch {
	case !ok:
		return api.Real{P: p, R: r, Neg: sign < 0}
	case sign < 0:
		return FromRat(rational.Sub(p, root))
	}
	return FromRat(rational.Add(p, root))
}

// Roots returns the different real roots of a quadratic, in increasing order, and Minimal the monic polynomial of least degree that has a root.
func Roots(q api.Quad) ([]api.Real, api.Errno) {
	zero := api.Rat{}
	switch {
	case q == api.Quad{}:
		return nil, api.ErrZero
	case q.C2 == zero && q.C1 == zero:
		return nil, api.OK
	case q.C2 == zero:
		return []api.Real{FromRat(ratio(rational.Neg(q.C0), q.C1))}, api.OK
	}
	// t*t - 2*p*t + c is zero where (t - p)*(t - p) is p*p - c.
	p := ratio(rational.Neg(q.C1), rational.Mul(rational.FromInt(2), q.C2))
	c := ratio(q.C0, q.C2)
	square := rational.Sub(rational.Mul(p, p), c)
	switch rational.Sign(square) {
	case -1:
		return nil, api.OK
	case 0:
		return []api.Real{FromRat(p)}, api.OK
	}
	return []api.Real{sum(p, -1, square), sum(p, 1, square)}, api.OK
}

// ratio returns a / b for b that is not zero.
func ratio(a, b api.Rat) api.Rat {
	quotient, _ := rational.Div(a, b)
	return quotient
}

func Minimal(x api.Real) api.Quad {
	one := rational.FromInt(1)
	if isRational(x) {
		return api.Quad{C0: rational.Neg(x.P), C1: one}
	}
	return api.Quad{C0: norm(x), C1: rational.Mul(rational.FromInt(-2), x.P), C2: one}
}

// norm returns the product of x and its conjugate.
func norm(x api.Real) api.Rat { return rational.Sub(rational.Mul(x.P, x.P), x.R) }

// Neg returns the opposite number, Shift a number that is greater by a fraction, Scale a multiple, and Inverse the reciprocal.
func Neg(x api.Real) api.Real {
	return api.Real{P: rational.Neg(x.P), R: x.R, Neg: !x.Neg && !isRational(x)}
}

func Shift(x api.Real, r api.Rat) api.Real {
	return api.Real{P: rational.Add(x.P, r), R: x.R, Neg: x.Neg}
}

func Scale(x api.Real, r api.Rat) api.Real {
	if isRational(x) {
		return FromRat(rational.Mul(x.P, r))
	}
	if rational.Sign(r) == 0 {
		return api.Real{}
	}
	square := rational.Mul(r, r)
	return api.Real{P: rational.Mul(x.P, r), R: rational.Mul(x.R, square), Neg: x.Neg != (rational.Sign(r) < 0)}
}

func Inverse(x api.Real) (api.Real, api.Errno) {
	if x == (api.Real{}) {
		return api.Real{}, api.ErrZero
	}
	one := rational.FromInt(1)
	if isRational(x) {
		return FromRat(ratio(one, x.P)), api.OK
	}
	conjugate := api.Real{P: x.P, R: x.R, Neg: !x.Neg}
	return Scale(conjugate, ratio(one, norm(x))), api.OK
}

// Floor returns the greatest integer that is at most a number, and Ceil the least one that is at least it.
func Floor(x api.Real) api.Int {
	if isRational(x) {
		return rational.Floor(x.P)
	}
	// With P = a / b and R = c / d, x is (a*d + sqrt(b*b*c*d)) / (b*d), or the same with a minus. The root is no integer.
	b, d := rational.Den(x.P), rational.Den(x.R)
	den := integer.Mul(b, d)
	num := integer.Mul(rational.Num(x.P), d)
	root, _ := integer.Sqrt(integer.Mul(integer.Mul(den, b), rational.Num(x.R)))
	if x.Neg {
		root = integer.Sub(integer.FromInt(-1), root)
	}
	floor, _, _ := integer.DivMod(integer.Add(num, root), den)
	return floor
}

func Ceil(x api.Real) api.Int { return integer.Negate(Floor(Neg(x))) }
