package real

import (
	"strings"

	"viator/api"
	"viator/rational"
)

// Between returns the simplest fraction between two numbers, and Enclose the binary fractions around a number.
func Between(x, y api.Real) (api.Rat, api.Errno) {
	switch {
	case Check(x) != api.OK || Check(y) != api.OK:
		return api.Rat{}, api.ErrForm // the recursion need not end
	case Compare(x, y) >= 0:
		return api.Rat{}, api.ErrOrder
	case isRational(x) && isRational(y):
		return rational.Simplest(x.P, y.P, true, true)
	case Sign(x) >= 0:
		return simplest(x, y), api.OK
	case Sign(y) <= 0:
		return rational.Neg(simplest(Neg(y), Neg(x))), api.OK
	}
	return api.Rat{}, api.OK
}

// simplest returns the simplest fraction between two numbers 0 <= x < y.
func simplest(x, y api.Real) api.Rat {
	floor := api.Rat{Num: Floor(x)}
	next := rational.Add(floor, rational.FromInt(1))
	if CompareRat(y, next) > 0 {
		return next
	}
	// All numbers between are from floor to next. What they have above floor is simplest where its reciprocal is.
	below := rational.Neg(floor)
	x, y = Shift(x, below), Shift(y, below)
	low, _ := Inverse(y)
	high, e := Inverse(x)
	if e != api.OK { // x is zero, so that the reciprocals have no upper bound
		high = Shift(low, rational.FromInt(2))
	}
	return rational.Add(floor, ratio(rational.FromInt(1), simplest(low, high)))
}

func Enclose(x api.Real, bits int) (low, high api.Rat, e api.Errno) {
	if bits < 0 || bits > MaxBits {
		return api.Rat{}, api.Rat{}, api.ErrRange
	}
	scale := powerOfTwo(bits)
	scaled := Scale(x, api.Rat{Num: scale})
	low, _ = rational.Make(Floor(scaled), scale)
	high, _ = rational.Make(Ceil(scaled), scale)
	return low, high, api.OK
}

// powerOfTwo returns 2^n.
func powerOfTwo(n int) api.Int {
	first := []byte{1 << (n % 8)}
	return api.Int{Mag: string(first) + strings.Repeat("\x00", n/8)}
}
