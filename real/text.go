package real

import (
	"strings"

	"viator/api"
	"viator/integer"
	"viator/rational"
)

// Print returns a number as a string, and Parse the number that a string is.
func Print(x api.Real) string {
	if isRational(x) {
		return rational.Print(x.P)
	}
	sign := "+"
	if x.Neg {
		sign = "-"
	}
	return rational.Print(x.P) + sign + "sqrt(" + rational.Print(x.R) + ")"
}

func Parse(s string) (api.Real, api.Errno) {
	x := read(s)
	if Check(x) != api.OK || Print(x) != s {
		return api.Real{}, api.ErrSyntax
	}
	return x, api.OK
}

// read returns the number with a string, and any number if there is none.
func read(s string) api.Real {
	before, behind, ok := strings.Cut(s, "sqrt(")
	if !ok {
		return FromRat(readFraction(s))
	}
	p, neg := strings.CutSuffix(before, "-")
	return api.Real{
		P:   readFraction(strings.TrimSuffix(p, "+")),
		R:   readFraction(strings.TrimSuffix(behind, ")")),
		Neg: neg,
	}
}

// readFraction does what rational.Parse does, but without a limit of the length: the fraction with a string, and any fraction if there is none.
func readFraction(s string) api.Rat {
	digits, neg := strings.CutPrefix(s, "-")
	numerator, denominator, ok := strings.Cut(digits, "/")
	num, den := readInteger(numerator), integer.FromInt(1)
	if ok {
		den = readInteger(denominator)
	}
	if neg {
		num = integer.Negate(num)
	}
	r, _ := rational.Make(num, den)
	return r
}

// readInteger puts the digits of a string together, as many at a time as integer.Pow has a power of ten for.
func readInteger(digits string) api.Int {
	value := api.Int{}
	for digits != "" {
		size := min(len(digits), integer.MaxPower)
		part, _ := rational.Parse(digits[:size])
		scale, _ := integer.Pow(integer.FromInt(10), size)
		value = integer.Add(integer.Mul(value, scale), rational.Num(part))
		digits = digits[size:]
	}
	return value
}
