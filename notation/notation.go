// Package notation writes values as short strings, and reads them. It is there for tests: it panics if a string is wrong.
package notation

import (
	"strings"

	"viator/api"
	"viator/integer"
	"viator/rational"
	"viator/real"
)

// Rat returns the fraction of a string like "-7/3", and Real the number of a string like "1-sqrt(2)".
func Rat(s string) api.Rat { return must(rational.Parse, s) }

func Real(s string) api.Real { return must(real.Parse, s) }

func must[A any](parse func(s string) (A, api.Errno), s string) A {
	value, e := parse(s)
	if e != api.OK {
		panic(s)
	}
	return value
}

// Reals returns the numbers between the spaces of a string, and ShowReals such a string.
func Reals(s string) []api.Real {
	var list []api.Real
	for _, word := range strings.Fields(s) {
		list = append(list, Real(word))
	}
	return list
}

func ShowReals(l []api.Real) string {
	var words []string
	for _, x := range l {
		words = append(words, real.Print(x))
	}
	return strings.Join(words, " ")
}

// Interval returns the interval of a string like "[0 1+sqrt(2))", and ShowInterval such a string.
func Interval(s string) api.Interval {
	ends := Reals(s[1 : len(s)-1])
	return api.Interval{From: ends[0], To: ends[1], OpenFrom: s[0] == '(', OpenTo: s[len(s)-1] == ')'}
}

func ShowInterval(i api.Interval) string {
	left, right := "[", "]"
	if i.OpenFrom {
		left = "("
	}
	if i.OpenTo {
		right = ")"
	}
	return left + real.Print(i.From) + " " + real.Print(i.To) + right
}

// Period returns the intervals between the commas of a string, and ShowPeriod such a string.
func Period(s string) []api.Interval {
	var l []api.Interval
	for _, part := range strings.Split(s, ", ") {
		if part != "" {
			l = append(l, Interval(part))
		}
	}
	return l
}

func ShowPeriod(l []api.Interval) string {
	var parts []string
	for _, i := range l {
		parts = append(parts, ShowInterval(i))
	}
	return strings.Join(parts, ", ")
}

// Pair returns the two fractions of a string like "3,1/2" or "3", of which the second one can be left out if it is 0, and ShowPair such a string.
func Pair(s string) (a, b api.Rat) {
	words := append(strings.Split(s, ","), "0")
	return Rat(words[0]), Rat(words[1])
}

func ShowPair(a, b api.Rat) string {
	return strings.TrimSuffix(rational.Print(a)+","+rational.Print(b), ",0")
}

// Quad returns the function with coefficients like "2" or "0,-1,1/2", and ShowQuad such a string.
func Quad(s string) api.Quad {
	c := append(strings.Split(s, ","), "0", "0")
	return api.Quad{C0: Rat(c[0]), C1: Rat(c[1]), C2: Rat(c[2])}
}

func ShowQuad(q api.Quad) string {
	s := ShowPair(q.C1, q.C2)
	if s == "0" {
		return rational.Print(q.C0)
	}
	return rational.Print(q.C0) + "," + s
}

// Wrong returns numbers that are not canonical.
func Wrong() []api.Real {
	zero := api.Int{Mag: "\x00"}
	one, two, four := integer.FromInt(1), integer.FromInt(2), integer.FromInt(4)
	return []api.Real{{Neg: true}, {P: api.Rat{Num: zero}}, {P: api.Rat{Num: two, Den: four}}, {R: Rat("4")}, {R: Rat("-2")}, {P: api.Rat{Num: one, Den: one}}}
}
