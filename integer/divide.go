package integer

import "math/bits"

// divide returns the quotient of x and y, which is not zero, and the remainder.
func divide(x, y natural) (quotient, remainder natural) {
	if compare(x, y) < 0 {
		return nil, x
	}
	if len(y) == 1 {
		quotient, rest := divideWord(x, y[0])
		return quotient, trim(natural{rest})
	}
	// Digits of the quotient are guessed from leading digits; the guess is good if the divisor begins with a 1.
	shift := bits.LeadingZeros64(y[len(y)-1])
	rest, divisor := shiftLeft(x, shift), shiftLeft(y, shift)[:len(y)]
	quotient = make(natural, len(x)-len(y)+1)
	for i := len(quotient) - 1; i >= 0; i-- {
		quotient[i] = quotientDigit(rest[i:i+len(y)+1], divisor)
	}
	return trim(quotient), shiftRight(trim(rest[:len(y)]), shift)
}

// divideWord divides by a single digit that is not zero.
func divideWord(x natural, divisor uint64) (quotient natural, remainder uint64) {
	quotient = make(natural, len(x))
	for i := len(x) - 1; i >= 0; i-- {
		quotient[i], remainder = bits.Div64(remainder, x[i], divisor)
	}
	return trim(quotient), remainder
}

// quotientDigit divides rest, which has one digit more than divisor, and leaves the remainder in it. The quotient is a single digit.
func quotientDigit(rest, divisor natural) uint64 {
	n := len(divisor)
	digit := guessDigit(rest[n-2:], divisor[n-2:])
	borrow := subtractMultiple(rest[:n], divisor, digit)
	missing := borrow > rest[n]
	rest[n] -= borrow
	if missing {
		digit--
		rest[n] += addMultiple(rest[:n], divisor, 1)
	}
	return digit
}

// guessDigit returns the quotient of three leading digits and two ones of the divisor, which is at most one too great for the whole numbers (Knuth, algorithm D).
func guessDigit(rest, divisor natural) uint64 {
	first, second := divisor[1], divisor[0]
	if rest[2] >= first {
		return 1<<64 - 1
	}
	digit, left := bits.Div64(rest[2], rest[1], first)
	for {
		high, low := bits.Mul64(digit, second)
		if high < left || high == left && low <= rest[0] {
			return digit
		}
		var over uint64
		digit--
		left, over = bits.Add64(left, first, 0)
		if over != 0 {
			return digit
		}
	}
}
