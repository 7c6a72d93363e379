package rational

import (
	"viator/api"
	"viator/integer"
)

// Simplest returns the simplest fraction of an interval.
func Simplest(a, b api.Rat, openA, openB bool) (api.Rat, api.Errno) {
	if Check(a) != api.OK || Check(b) != api.OK {
		return api.Rat{}, api.ErrForm // the recursion need not end
	}
	low, high := bound{a.Num, Den(a), openA}, bound{b.Num, Den(b), openB}
	order := Compare(a, b)
	signA, signB := Sign(a), Sign(b)
	switch {
	case order > 0 || order == 0 && (openA || openB):
		return api.Rat{}, api.ErrEmpty
	case (signA < 0 || signA == 0 && !openA) && (signB > 0 || signB == 0 && !openB):
		return api.Rat{}, api.OK
	case signA < 0:
		return Neg(coprime(simplest(high.negative(), low.negative()))), api.OK
	}
	return coprime(simplest(low, high)), api.OK
}

// bound is an end of an interval of numbers that are not negative. A denominator of zero says that there is no end.
type bound struct {
	num, den api.Int
	open     bool
}

func (b bound) negative() bound { return bound{integer.Negate(b.num), b.den, b.open} }

// simplest returns the numerator and the denominator of the simplest fraction from low to high. There is a number between, and zero is none of them.
func simplest(low, high bound) (num, den api.Int) {
	floor, rest, _ := integer.DivMod(low.num, low.den)
	least := floor
	if low.open || integer.Sign(rest) > 0 {
		least = integer.Add(floor, one)
	}
	if high.isAbove(least) {
		return least, one
	}
	// All numbers between are from floor to floor + 1. What they have above floor is simplest where its reciprocal is.
	above := integer.Sub(high.num, integer.Mul(floor, high.den))
	den, num = simplest(bound{high.den, above, high.open}, bound{low.den, rest, low.open})
	return integer.Add(integer.Mul(floor, den), num), den
}

// isAbove tells whether an integer does not exceed an upper end.
func (b bound) isAbove(n api.Int) bool {
	order := integer.Compare(integer.Mul(n, b.den), b.num)
	return order < 0 || order == 0 && !b.open
}
