// Package integer is layer 1: integers of any size, see shared/doc/01-integer.md.
package integer

import (
	"cmp"
	"math/bits"

	"viator/api"
)

// MaxPower is the greatest exponent of Pow, and MaxDigits the greatest number of digits that Parse accepts.
const (
	MaxPower  = 64
	MaxDigits = 1000
)

// wordBytes is the number of bytes of a machine word. Sums and differences of integers with fewer bytes are ints.
const wordBytes = 8

// Check returns the error of a value.
func Check(a api.Int) api.Errno {
	if a.Mag == "" && a.Neg || a.Mag != "" && a.Mag[0] == 0 {
		return api.ErrForm
	}
	return api.OK
}

// FromInt returns the integer with the value of an int, and ToInt the int with the value of an integer, if there is one.
func FromInt(n int) api.Int {
	if n < 0 {
		return packWord(true, -uint64(n)) // wraps around as it should for the least int, too
	}
	return packWord(false, uint64(n))
}

func ToInt(a api.Int) (int, bool) {
	if len(a.Mag) > wordBytes {
		return 0, false
	}
	limit := uint64(1)<<63 - 1
	if a.Neg {
		limit++
	}
	magnitude := word(a.Mag)
	if magnitude > limit {
		return 0, false
	}
	if a.Neg {
		return int(-magnitude), true
	}
	return int(magnitude), true
}

// Sign returns the sign of an integer, Compare that of a difference, and Bits the number of binary digits.
func Sign(a api.Int) int {
	switch {
	case a.Mag == "":
		return 0
	case a.Neg:
		return -1
	}
	return 1
}

func Compare(a, b api.Int) int {
	signA, signB := Sign(a), Sign(b)
	if signA != signB {
		return cmp.Compare(signA, signB)
	}
	return signA * compareMagnitudes(a.Mag, b.Mag)
}

// compareMagnitudes compares two numbers that are given by their bytes.
func compareMagnitudes(a, b string) int {
	if len(a) != len(b) {
		return cmp.Compare(len(a), len(b))
	}
	return cmp.Compare(a, b)
}

func Bits(a api.Int) int {
	if a.Mag == "" {
		return 0
	}
	return 8*(len(a.Mag)-1) + bits.Len8(a.Mag[0])
}

// Negate, Abs, Add, Sub and Mul are the operations of the ring of integers.
func Negate(a api.Int) api.Int {
	return api.Int{Neg: !a.Neg && a.Mag != "", Mag: a.Mag}
}

func Abs(a api.Int) api.Int { return api.Int{Mag: a.Mag} }

func Add(a, b api.Int) api.Int {
	if x, ok := short(a); ok {
		if y, ok := short(b); ok {
			return FromInt(x + y)
		}
	}
	return combine(a, b, b.Neg)
}

func Sub(a, b api.Int) api.Int {
	if x, ok := short(a); ok {
		if y, ok := short(b); ok {
			return FromInt(x - y)
		}
	}
	return combine(a, b, !b.Neg)
}

// short returns the int of an integer that is so small that the sum of two such ones is an int.
func short(a api.Int) (int, bool) {
	if len(a.Mag) >= wordBytes {
		return 0, false
	}
	n := int(word(a.Mag))
	if a.Neg {
		return -n, true
	}
	return n, true
}

// combine adds to a the number that has the magnitude of b and a sign of its own.
func combine(a, b api.Int, negB bool) api.Int {
	var spaceA, spaceB, space [reserve]uint64
	x, y := unpack(spaceA[:0], a.Mag), unpack(spaceB[:0], b.Mag)
	neg, other := a.Neg, negB
	if compare(x, y) < 0 {
		x, y = y, x
		neg, other = other, neg
	}
	if neg == other {
		return pack(neg, plus(space[:0], x, y))
	}
	return pack(neg, minus(space[:0], x, y))
}

func Mul(a, b api.Int) api.Int {
	neg := a.Neg != b.Neg
	if x, y, ok := words(a, b); ok {
		high, low := bits.Mul64(x, y)
		return pack(neg, natural{low, high})
	}
	var spaceA, spaceB, space [reserve]uint64
	x, y := unpack(spaceA[:0], a.Mag), unpack(spaceB[:0], b.Mag)
	return pack(neg, times(space[:0], x, y))
}

// DivMod divides with a remainder that is not negative.
func DivMod(a, b api.Int) (quotient, remainder api.Int, e api.Errno) {
	if x, y, ok := words(a, b); ok && y != 0 {
		return divModWords(a.Neg, b.Neg, x, y)
	}
	var spaceA, spaceB, space [reserve]uint64
	x, y := unpack(spaceA[:0], a.Mag), unpack(spaceB[:0], b.Mag)
	if len(y) == 0 {
		return api.Int{}, api.Int{}, api.ErrZero
	}
	q, r := divide(x, y)
	if a.Neg && len(r) > 0 {
		q, r = plus(space[:0], q, natural{1}), minus(nil, y, r)
	}
	return pack(a.Neg != b.Neg, q), pack(false, r), api.OK
}

// divModWords is DivMod for magnitudes below 2^64.
func divModWords(negA, negB bool, x, y uint64) (quotient, remainder api.Int, e api.Errno) {
	q, r := x/y, x%y
	if negA && r > 0 {
		q, r = q+1, y-r
	}
	return packWord(negA != negB, q), packWord(false, r), api.OK
}

// words returns the magnitudes of two integers if both are below 2^64.
func words(a, b api.Int) (x, y uint64, ok bool) {
	if len(a.Mag) > wordBytes || len(b.Mag) > wordBytes {
		return 0, 0, false
	}
	return word(a.Mag), word(b.Mag), true
}

// Gcd returns the greatest common divisor.
func Gcd(a, b api.Int) api.Int {
	if x, y, ok := words(a, b); ok {
		return packWord(false, wordGcd(x, y))
	}
	var spaceA, spaceB [reserve]uint64
	return pack(false, gcd(unpack(spaceA[:0], a.Mag), unpack(spaceB[:0], b.Mag)))
}

// Pow returns a power.
func Pow(a api.Int, n int) (api.Int, api.Errno) {
	if n < 0 || n > MaxPower {
		return api.Int{}, api.ErrRange
	}
	power := FromInt(1)
	for bit := bits.Len(uint(n)) - 1; bit >= 0; bit-- {
		power = Mul(power, power)
		if n>>bit&1 == 1 {
			power = Mul(power, a)
		}
	}
	return power, api.OK
}

// Sqrt returns the greatest integer whose square is at most a, and IsSquare the root of a square.
func Sqrt(a api.Int) (api.Int, api.Errno) {
	if Sign(a) < 0 {
		return api.Int{}, api.ErrRange
	}
	var space [reserve]uint64
	return pack(false, root(unpack(space[:0], a.Mag))), api.OK
}

func IsSquare(a api.Int) (api.Int, bool) {
	if Sign(a) < 0 || !mayBeSquare(a.Mag) {
		return api.Int{}, false
	}
	r, _ := Sqrt(a)
	if Mul(r, r) != a {
		return api.Int{}, false
	}
	return r, true
}

// mayBeSquare is false for most numbers that are no squares; this is found from their remainders by 64, 3, 5 and 17, without a root.
func mayBeSquare(mag string) bool {
	if mag == "" {
		return true
	}
	// The bits of these constants are set at the remainders of squares.
	const by64, by3, by5, by17 uint64 = 0x0202021202030213, 0x3, 0x13, 0x1a317
	if by64>>(mag[len(mag)-1]%64)&1 == 0 {
		return false
	}
	sum := uint64(0) // has the remainders of the number by the divisors of 255, since 256 has the remainder 1
	for i := range len(mag) {
		sum += uint64(mag[i])
	}
	return (by3>>(sum%3))&(by5>>(sum%5))&(by17>>(sum%17))&1 == 1
}
