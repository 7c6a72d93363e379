package enclosure

import (
	"viator/api"
	"viator/rational"
)

// Neg, Add, Sub, Mul, Scale, Square and Div return the least bounds of the results of the operations.
func Neg(a Bound) Bound {
	return Bound{Low: rational.Neg(a.High), High: rational.Neg(a.Low)}
}

func Add(a, b Bound) Bound {
	return Bound{Low: rational.Add(a.Low, b.Low), High: rational.Add(a.High, b.High)}
}

func Sub(a, b Bound) Bound { return Add(a, Neg(b)) }

func Mul(a, b Bound) Bound {
	products := [...]api.Rat{
		rational.Mul(a.Low, b.Low), rational.Mul(a.Low, b.High),
		rational.Mul(a.High, b.Low), rational.Mul(a.High, b.High),
	}
	return hull(products[0], products[1:]...)
}

func Scale(a Bound, by api.Rat) Bound {
	return hull(rational.Mul(a.Low, by), rational.Mul(a.High, by))
}

func Square(a Bound) Bound {
	low, high := rational.Mul(a.Low, a.Low), rational.Mul(a.High, a.High)
	if Contains(a, api.Rat{}) {
		return hull(low, high, api.Rat{})
	}
	return hull(low, high)
}

func Div(a, b Bound) (Bound, api.Errno) {
	if Contains(b, api.Rat{}) {
		return Bound{}, api.ErrZero
	}
	one := rational.FromInt(1)
	low, _ := rational.Div(one, b.High)
	high, _ := rational.Div(one, b.Low)
	return Mul(a, Bound{Low: low, High: high}), api.OK
}

// hull returns the bound from the least one of some fractions to the greatest one.
func hull(first api.Rat, more ...api.Rat) Bound {
	b := Exact(first)
	for _, r := range more {
		b = Bound{Low: rational.Min(b.Low, r), High: rational.Max(b.High, r)}
	}
	return b
}
