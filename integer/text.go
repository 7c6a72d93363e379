package integer

import (
	"math/bits"
	"strconv"
	"strings"

	"viator/api"
)

// groupDigits decimal digits fit into a word; group is the number of values that they have.
const (
	groupDigits = 19
	group       = 10_000_000_000_000_000_000
)

// Parse reads an integer in decimal digits, and Print writes one.
func Parse(s string) (api.Int, api.Errno) {
	digits, neg := strings.CutPrefix(s, "-")
	switch {
	case s == "":
		return api.Int{}, api.ErrEmpty
	case len(digits) > MaxDigits:
		return api.Int{}, api.ErrLong
	case !isNumeral(digits) || neg && digits == "0":
		return api.Int{}, api.ErrSyntax
	}
	var space [reserve]uint64
	value := natural(space[:0])
	for digits != "" {
		// The first group is the one that may be shorter.
		size := (len(digits)-1)%groupDigits + 1
		value = appendGroup(value, digits[:size])
		digits = digits[size:]
	}
	return pack(neg, value), api.OK
}

// isNumeral tells whether a string is a row of digits that does not begin with a needless zero.
func isNumeral(digits string) bool {
	for i := range len(digits) {
		if digits[i] < '0' || digits[i] > '9' {
			return false
		}
	}
	return digits == "0" || digits != "" && digits[0] != '0'
}

// appendGroup returns the number with the decimal digits of value and those of a whole group behind them, or of any group if value is zero.
func appendGroup(value natural, digits string) natural {
	carry := uint64(0)
	for i := range len(digits) {
		carry = carry*10 + uint64(digits[i]-'0')
	}
	for i := range len(value) {
		high, low := bits.Mul64(value[i], group)
		var over uint64
		value[i], over = bits.Add64(low, carry, 0)
		carry = high + over
	}
	return trim(append(value, carry))
}

func Print(a api.Int) string {
	var groups []uint64
	for rest := unpack(nil, a.Mag); len(rest) > 0; {
		var last uint64
		rest, last = divideWord(rest, group)
		groups = append(groups, last)
	}
	if len(groups) == 0 {
		return "0"
	}
	var text strings.Builder
	if a.Neg {
		text.WriteByte('-')
	}
	text.WriteString(strconv.FormatUint(groups[len(groups)-1], 10))
	for i := len(groups) - 2; i >= 0; i-- {
		digits := strconv.FormatUint(groups[i], 10)
		text.WriteString(strings.Repeat("0", groupDigits-len(digits)))
		text.WriteString(digits)
	}
	return text.String()
}
