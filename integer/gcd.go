package integer

import "math/bits"

// gcd returns the greatest common divisor of two numbers, in whose memory it computes.
func gcd(x, y natural) natural {
	if compare(x, y) < 0 {
		x, y = y, x
	}
	for len(y) > 1 {
		x, y = reduce(x, y)
	}
	if len(y) == 0 {
		return x
	}
	_, rest := divideWord(x, y[0])
	return natural{wordGcd(y[0], rest)}
}

// wordGcd returns the greatest common divisor of two words.
func wordGcd(a, b uint64) uint64 {
	if a == 0 || b == 0 {
		return a | b
	}
	twos := bits.TrailingZeros64(a | b)
	a >>= bits.TrailingZeros64(a)
	for b != 0 {
		b >>= bits.TrailingZeros64(b)
		if a > b {
			a, b = b, a
		}
		b -= a
	}
	return a << twos
}

// reduce makes at least one step of Euclid's algorithm from x and y to two later remainders; x >= y, and y has at least two digits.
func reduce(x, y natural) (natural, natural) {
	for len(y) < len(x) {
		y = append(y, 0)
	}
	s := certainSteps(x, y)
	switch {
	case s.y0 == 0:
		y = trim(y)
		_, rest := divide(x, y)
		return y, rest
	case s.odd:
		return differences(y, x, s.y0, s.x0, s.x1, s.y1)
	}
	return differences(x, y, s.x0, s.y0, s.y1, s.x1)
}

// steps are several steps of Euclid's algorithm in one: if their number is even, they lead from x and y to x0*x - y0*y and y1*y - x1*x, and if it is odd to the same with the other signs.
type steps struct {
	x0, y0, x1, y1 uint64
	odd            bool
}

// certainSteps returns the steps that are decided by the leading words of x and y, whatever follows these (Lehmer's algorithm with Collins's condition); y0 is zero if there are none. Both numbers have the same number of digits; y may end with zeros.
func certainSteps(x, y natural) steps {
	n := len(x)
	shift := bits.LeadingZeros64(x[n-1])
	a := x[n-1]<<shift | x[n-2]>>(64-shift)
	b := y[n-1]<<shift | y[n-2]>>(64-shift)
	s := steps{x1: 1, odd: true}
	x2, y2 := uint64(0), uint64(1) // the step that is looked at is not certain yet
	for b >= y2 && a-b >= s.y1+y2 {
		quotient := a / b
		a, b = b, a%b
		s.x0, s.x1, x2 = s.x1, x2, s.x1+quotient*x2
		s.y0, s.y1, y2 = s.y1, y2, s.y1+quotient*y2
		s.odd = !s.odd
	}
	return s
}

// differences returns a*x - b*y and c*y - d*x, neither of which is negative, in the memory of x and y, which have the same number of digits.
func differences(x, y natural, a, b, c, d uint64) (natural, natural) {
	first, second := difference{plus: a, minus: b}, difference{plus: c, minus: d}
	for i := range len(x) {
		x[i], y[i] = first.digit(x[i], y[i]), second.digit(y[i], x[i])
	}
	return trim(x), trim(y)
}

// difference computes the difference of two multiples, from the least significant digit on.
type difference struct {
	plus, minus            uint64
	carry, taken, borrowed uint64
}

// digit returns the next digit of the difference from the next ones of both numbers.
func (d *difference) digit(x, y uint64) uint64 {
	high, low := bits.Mul64(d.plus, x)
	low, over := bits.Add64(low, d.carry, 0)
	d.carry = high + over
	high, less := bits.Mul64(d.minus, y)
	less, over = bits.Add64(less, d.taken, 0)
	d.taken = high + over
	low, d.borrowed = bits.Sub64(low, less, d.borrowed)
	return low
}
