// Package surd computes with the numbers that the values of functions at an instant are: p + q*s, where s is the root of the instant. It is there for tests, which compute with it what they expect, without the packages above real.
package surd

import (
	"slices"

	"viator/api"
	"viator/rational"
	"viator/real"
)

// Number is P + Q*s, where s is the positive root of R.
type Number struct{ P, Q, R api.Rat }

// Of returns a fraction, and Instant the number that an instant is.
func Of(r api.Rat) Number { return Number{P: r} }

func Instant(t api.Real) Number {
	sign := rational.FromInt(1)
	if t.Neg {
		sign = rational.FromInt(-1)
	}
	return Number{P: t.P, Q: sign, R: t.R}
}

// Plus, Minus, Times and Scale return the sum, the difference and the product of two numbers at the same instant, and a multiple.
func (a Number) Plus(b Number) Number {
	return Number{P: rational.Add(a.P, b.P), Q: rational.Add(a.Q, b.Q), R: rational.Max(a.R, b.R)}
}

func (a Number) Minus(b Number) Number { return a.Plus(b.Scale(rational.FromInt(-1))) }

func (a Number) Times(b Number) Number {
	r := rational.Max(a.R, b.R)
	return Number{
		P: rational.Add(rational.Mul(a.P, b.P), rational.Mul(rational.Mul(a.Q, b.Q), r)),
		Q: rational.Add(rational.Mul(a.P, b.Q), rational.Mul(a.Q, b.P)),
		R: r,
	}
}

func (a Number) Scale(by api.Rat) Number {
	return Number{P: rational.Mul(a.P, by), Q: rational.Mul(a.Q, by), R: a.R}
}

// Real returns the number in the form of layer 3, and Sign its sign.
func (a Number) Real() api.Real {
	x, e := real.Make(a.P, a.Q, a.R)
	if e != api.OK {
		panic(e)
	}
	return x
}

func (a Number) Sign() int { return real.Sign(a.Real()) }

// Value returns the value of a function at an instant.
func Value(f api.Quad, t api.Real) Number {
	at := Instant(t)
	return at.Times(at).Scale(f.C2).Plus(at.Scale(f.C1)).Plus(Of(f.C0))
}

// Spot is a position at an instant.
type Spot struct{ X, Y Number }

// Fixed returns a position that rests, and Position that of a moving point at an instant.
func Fixed(p api.Point) Spot { return Spot{X: Of(p.X), Y: Of(p.Y)} }

func Position(f api.Line, t api.Real) Spot {
	return Spot{X: Value(api.Quad{C0: f.X0, C1: f.X1}, t), Y: Value(api.Quad{C0: f.Y0, C1: f.Y1}, t)}
}

// Minus returns the vector from b to a, Cross and Dot return products of vectors, and Compare compares by X and then by Y.
func (a Spot) Minus(b Spot) Spot { return Spot{X: a.X.Minus(b.X), Y: a.Y.Minus(b.Y)} }

func Cross(a, b Spot) Number { return a.X.Times(b.Y).Minus(a.Y.Times(b.X)) }

func Dot(a, b Spot) Number { return a.X.Times(b.X).Plus(a.Y.Times(b.Y)) }

func Compare(a, b Spot) int {
	if order := a.X.Minus(b.X).Sign(); order != 0 {
		return order
	}
	return a.Y.Minus(b.Y).Sign()
}

// Real returns the position in the form of layer 15.
func (a Spot) Real() api.RealPoint { return api.RealPoint{X: a.X.Real(), Y: a.Y.Real()} }

// Within reports whether a point is inside of a ring, on which it is not: a ray upwards crosses the ring an odd number of times.
func Within(p Spot, ring []Spot) bool {
	crossings := 0
	for k, a := range ring {
		b := ring[(k+1)%len(ring)]
		if Compare(a, b) > 0 {
			a, b = b, a
		}
		if a.X.Minus(p.X).Sign() <= 0 && p.X.Minus(b.X).Sign() < 0 && Cross(b.Minus(a), p.Minus(a)).Sign() < 0 {
			crossings++
		}
	}
	return crossings%2 == 1
}

// Contains reports whether an instant belongs to an interval.
func Contains(i api.Interval, t api.Real) bool {
	from, to := real.Compare(i.From, t), real.Compare(t, i.To)
	return (from < 0 || from == 0 && !i.OpenFrom) && (to < 0 || to == 0 && !i.OpenTo)
}

// Instants returns instants in order, each once, and one between each two neighbouring ones.
func Instants(special []api.Real) []api.Real {
	special = slices.Clone(special)
	slices.SortFunc(special, real.Compare)
	special = slices.Compact(special)
	var all []api.Real
	for k, t := range special {
		if k > 0 {
			between, _ := real.Between(special[k-1], t)
			all = append(all, real.FromRat(between))
		}
		all = append(all, t)
	}
	return all
}
