package rational

import (
	"strings"

	"viator/api"
	"viator/integer"
)

// Print returns a fraction in decimal digits, and Parse the fraction that a string denotes.
func Print(a api.Rat) string {
	if isInteger(a) {
		return integer.Print(a.Num)
	}
	return integer.Print(a.Num) + "/" + integer.Print(a.Den)
}

func Parse(s string) (api.Rat, api.Errno) {
	if len(s) > api.MaxText {
		return api.Rat{}, api.ErrLong
	}
	text, neg := strings.CutPrefix(s, "-")
	var num, den numeral
	part := &num
	for _, r := range text {
		switch {
		case r >= '0' && r <= '9':
			part.add(int(r - '0'))
		case r == '/' && part == &num:
			part = &den
		default:
			return api.Rat{}, api.ErrSyntax
		}
	}
	if num.empty() || part.empty() {
		return api.Rat{}, api.ErrSyntax
	}
	value := num.total()
	if neg {
		value = integer.Negate(value)
	}
	if part == &num {
		return api.Rat{Num: value}, api.OK
	}
	return Make(value, den.total())
}

// numeral is the number of the digits that have been added. The last ones are kept in an int, since products with large integers cost more.
type numeral struct {
	value       api.Int
	last, scale int
}

// maxScale is the greatest power of ten that is an int.
const maxScale = 1_000_000_000_000_000_000

// add puts a digit behind the others.
func (n *numeral) add(digit int) {
	if n.scale == maxScale {
		n.value, n.last, n.scale = n.total(), 0, 1
	}
	n.last, n.scale = n.last*10+digit, max(n.scale, 1)*10
}

func (n *numeral) empty() bool { return n.scale == 0 }

func (n *numeral) total() api.Int {
	return integer.Add(integer.Mul(n.value, integer.FromInt(n.scale)), integer.FromInt(n.last))
}
