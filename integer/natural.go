package integer

import (
	"math/bits"

	"viator/api"
)

// natural is a number that is not negative, in base 2^64: its digits, the least significant one first. Where nothing else is said, the last digit is not zero.
type natural []uint64

// reserve is the number of digits for which numbers find room without a request for memory.
const reserve = 16

// word returns the number with these bytes, at most 8 without the zeros in front.
func word(mag string) uint64 {
	var w uint64
	for i := range len(mag) {
		w = w<<8 | uint64(mag[i])
	}
	return w
}

// packWord returns the integer with a magnitude below 2^64.
func packWord(neg bool, w uint64) api.Int {
	if w == 0 {
		return api.Int{}
	}
	var mag [wordBytes]byte
	for i := range wordBytes {
		mag[i] = byte(w >> (8 * (wordBytes - 1 - i)))
	}
	return api.Int{Neg: neg, Mag: string(mag[bits.LeadingZeros64(w)/8:])}
}

// unpack appends the digits of a magnitude to space, which is empty.
func unpack(space natural, mag string) natural {
	for len(mag) > wordBytes {
		rest := len(mag) - wordBytes
		space = append(space, word(mag[rest:]))
		mag = mag[:rest]
	}
	return trim(append(space, word(mag)))
}

// pack returns the integer with a magnitude, whose last digits may be zeros.
func pack(neg bool, n natural) api.Int {
	n = trim(n)
	if len(n) == 0 {
		return api.Int{}
	}
	var space [wordBytes * reserve]byte
	mag := space[:0]
	for i := len(n) - 1; i >= 0; i-- {
		w := n[i]
		mag = append(mag, byte(w>>56), byte(w>>48), byte(w>>40), byte(w>>32), byte(w>>24), byte(w>>16), byte(w>>8), byte(w))
	}
	return api.Int{Neg: neg, Mag: string(mag[bits.LeadingZeros64(n[len(n)-1])/8:])}
}

// trim removes the zeros at the end.
func trim(n natural) natural {
	for len(n) > 0 && n[len(n)-1] == 0 {
		n = n[:len(n)-1]
	}
	return n
}

// room returns n digits that are zero, in the memory of space if that is large enough.
func room(space natural, n int) natural {
	if n > cap(space) {
		return make(natural, n)
	}
	space = space[:n]
	clear(space)
	return space
}

func compare(x, y natural) int {
	if len(x) != len(y) {
		return sign(len(x) > len(y))
	}
	for i := len(x) - 1; i >= 0; i-- {
		if x[i] != y[i] {
			return sign(x[i] > y[i])
		}
	}
	return 0
}

func sign(greater bool) int {
	if greater {
		return 1
	}
	return -1
}

// plus returns x + y, in space if it suffices.
func plus(space, x, y natural) natural {
	if len(x) < len(y) {
		x, y = y, x
	}
	sum := room(space, len(x)+1)
	copy(sum, x)
	var carry uint64
	for i := range len(y) {
		sum[i], carry = bits.Add64(sum[i], y[i], carry)
	}
	for i := len(y); carry != 0; i++ {
		sum[i], carry = bits.Add64(sum[i], 0, carry)
	}
	return trim(sum)
}

// minus returns x - y for x >= y, in space if it suffices.
func minus(space, x, y natural) natural {
	difference := room(space, len(x))
	copy(difference, x)
	var borrow uint64
	for i := range len(y) {
		difference[i], borrow = bits.Sub64(difference[i], y[i], borrow)
	}
	for i := len(y); borrow != 0; i++ {
		difference[i], borrow = bits.Sub64(difference[i], 0, borrow)
	}
	return trim(difference)
}

// times returns x * y, in space if it suffices.
func times(space, x, y natural) natural {
	product := room(space, len(x)+len(y))
	for i := range len(y) {
		product[i+len(x)] = addMultiple(product[i:i+len(x)], x, y[i])
	}
	return trim(product)
}

// addMultiple adds x * factor to sum, which has as many digits as x, and returns the digit behind these.
func addMultiple(sum, x natural, factor uint64) uint64 {
	var carry uint64
	for i := range len(x) {
		high, low := bits.Mul64(x[i], factor)
		var over uint64
		low, over = bits.Add64(low, sum[i], 0)
		high += over
		sum[i], over = bits.Add64(low, carry, 0)
		carry = high + over
	}
	return carry
}

// subtractMultiple subtracts x * factor from rest, which has as many digits as x, and returns what must be taken from the digit behind these.
func subtractMultiple(rest, x natural, factor uint64) uint64 {
	var borrow uint64
	for i := range len(x) {
		high, low := bits.Mul64(x[i], factor)
		var under uint64
		low, under = bits.Add64(low, borrow, 0)
		high += under
		rest[i], under = bits.Sub64(rest[i], low, 0)
		borrow = high + under
	}
	return borrow
}

// shiftLeft returns x * 2^n with one digit more than this can need.
func shiftLeft(x natural, n int) natural {
	words, part := n/64, uint(n%64)
	shifted := make(natural, len(x)+words+1)
	for i := range len(x) {
		shifted[i+words] |= x[i] << part
		shifted[i+words+1] = x[i] >> (64 - part)
	}
	return shifted
}

// shiftRight returns x / 2^n, rounded down.
func shiftRight(x natural, n int) natural {
	words, part := n/64, uint(n%64)
	if words >= len(x) {
		return nil
	}
	shifted := make(natural, len(x)-words)
	copy(shifted, x[words:])
	for i := range len(shifted) {
		shifted[i] >>= part
		if i+1 < len(shifted) {
			shifted[i] |= shifted[i+1] << (64 - part)
		}
	}
	return trim(shifted)
}

// root returns the greatest number whose square is at most x.
func root(x natural) natural {
	if len(x) == 0 {
		return nil
	}
	if len(x) == 1 {
		return natural{wordRoot(x[0])}
	}
	// The leading half of the root is right after the recursion; one more there is not less than the root, so that Newton's steps fall, and stop at it.
	half := (64*len(x) - bits.LeadingZeros64(x[len(x)-1])) / 4
	leading := plus(nil, root(shiftRight(x, 2*half)), natural{1})
	guess := trim(shiftLeft(leading, half))
	for {
		quotient, _ := divide(x, guess)
		next := shiftRight(plus(nil, guess, quotient), 1)
		if compare(next, guess) >= 0 {
			return guess
		}
		guess = next
	}
}

// wordRoot is root for a number that is not zero.
func wordRoot(x uint64) uint64 {
	guess := uint64(1) << ((bits.Len64(x) + 1) / 2)
	for {
		next := (guess + x/guess) / 2
		if next >= guess {
			return guess
		}
		guess = next
	}
}
