package real

import (
	"viator/api"
	"viator/rational"
)

// Sign returns the sign of a number, Compare compares two of them, and CompareRat one with a fraction; Min and Max return the less and the greater one.
func Sign(x api.Real) int {
	if isRational(x) {
		return rational.Sign(x.P)
	}
	return signOfSum(x.P, rootSign(x), x.R)
}

// rootSign returns the sign that stands before the root.
func rootSign(x api.Real) int {
	if x.Neg {
		return -1
	}
	return 1
}

// signOfSum returns the sign of p + sqrt(r), or of p - sqrt(r) if the sign is -1, for a positive r.
func signOfSum(p api.Rat, sign int, r api.Rat) int {
	if rational.Sign(p) != -sign {
		return sign
	}
	return sign * rational.Compare(r, rational.Mul(p, p))
}

func Compare(x, y api.Real) int {
	switch {
	case x.R == y.R && x.Neg == y.Neg:
		return rational.Compare(x.P, y.P)
	case isRational(y):
		return CompareRat(x, y.P)
	case isRational(x):
		return -CompareRat(y, x.P)
	}
	// The root of x and the difference d of the rational parts are compared with the root of y. If the signs are equal, the squares are compared: d*d + R(x) + 2*d*root(x) with R(y).
	d := rational.Sub(x.P, y.P)
	left, right := signOfSum(d, rootSign(x), x.R), rootSign(y)
	if left != right {
		return left
	}
	p := rational.Sub(rational.Add(rational.Mul(d, d), x.R), y.R)
	q := rational.Mul(rational.FromInt(2), d)
	if rational.Sign(q) == 0 {
		return right * rational.Sign(p)
	}
	square := rational.Mul(rational.Mul(q, q), x.R)
	return right * signOfSum(p, rational.Sign(q)*rootSign(x), square)
}

func CompareRat(x api.Real, r api.Rat) int {
	if isRational(x) {
		return rational.Compare(x.P, r)
	}
	return signOfSum(rational.Sub(x.P, r), rootSign(x), x.R)
}

func Min(x, y api.Real) api.Real {
	if Compare(x, y) <= 0 {
		return x
	}
	return y
}

func Max(x, y api.Real) api.Real {
	if Compare(x, y) >= 0 {
		return x
	}
	return y
}
