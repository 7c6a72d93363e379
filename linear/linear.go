// Package linear contains what several layers need of points that move linearly in time: api.Line as a vector that depends on time.
package linear

import (
	"viator/api"
	"viator/quadratic"
)

// Coordinates returns the coordinates of a moving point as functions of time, and Point the moving point with two linear coordinates.
func Coordinates(f api.Line) (x, y api.Quad) {
	return quadratic.Linear(f.X0, f.X1), quadratic.Linear(f.Y0, f.Y1)
}

func Point(x, y api.Quad) api.Line {
	return api.Line{X0: x.C0, X1: x.C1, Y0: y.C0, Y1: y.C1}
}

// Fixed returns the moving point that rests, and Between the one that is at p at the instant t, and at q at another instant u.
func Fixed(p api.Point) api.Line { return api.Line{X0: p.X, Y0: p.Y} }

func Between(t api.Rat, p api.Point, u api.Rat, q api.Point) (api.Line, api.Errno) {
	x, e := quadratic.Between(t, p.X, u, q.X)
	if e != api.OK {
		return api.Line{}, e
	}
	y, e := quadratic.Between(t, p.Y, u, q.Y)
	return Point(x, y), e
}

// At returns the position at an instant, and AtRat that at a rational one.
func At(f api.Line, t api.Real) api.RealPoint {
	x, y := Coordinates(f)
	return api.RealPoint{X: quadratic.At(x, t), Y: quadratic.At(y, t)}
}

func AtRat(f api.Line, t api.Rat) api.Point {
	x, y := Coordinates(f)
	return api.Point{X: quadratic.Eval(x, t), Y: quadratic.Eval(y, t)}
}

// Velocity returns the velocity, which is constant.
func Velocity(f api.Line) api.Point { return api.Point{X: f.X1, Y: f.Y1} }

// Shift returns a moving point that is later by a number, and Translate one that is elsewhere by a vector.
func Shift(f api.Line, by api.Rat) api.Line {
	x, y := Coordinates(f)
	return Point(quadratic.Shift(x, by), quadratic.Shift(y, by))
}

func Translate(f api.Line, by api.Point) api.Line { return Add(f, Fixed(by)) }

// Add returns the sum of two moving vectors, and Sub the moving vector from g to f.
func Add(f, g api.Line) api.Line { return combine(f, g, quadratic.Add) }

func Sub(f, g api.Line) api.Line { return combine(f, g, quadratic.Sub) }

func combine(f, g api.Line, operation func(p, q api.Quad) api.Quad) api.Line {
	fx, fy := Coordinates(f)
	gx, gy := Coordinates(g)
	return Point(operation(fx, gx), operation(fy, gy))
}

// Cross returns the cross product of two moving vectors, and Dot the scalar product.
func Cross(f, g api.Line) api.Quad {
	fx, fy := Coordinates(f)
	gx, gy := Coordinates(g)
	return quadratic.Sub(product(fx, gy), product(fy, gx))
}

func Dot(f, g api.Line) api.Quad {
	fx, fy := Coordinates(f)
	gx, gy := Coordinates(g)
	return quadratic.Add(product(fx, gx), product(fy, gy))
}

// product returns the product of two linear functions, whose degree is not too high.
func product(p, q api.Quad) api.Quad {
	result, _ := quadratic.Mul(p, q)
	return result
}

// Turn returns the function that is positive where the way from a over b to c turns left.
func Turn(a, b, c api.Line) api.Quad { return Cross(Sub(b, a), Sub(c, a)) }

// Surrounds reports whether a point is inside of a ring, on which it is not, at an instant at which a function tells the signs of quadratics, and SignsAt returns this function for an instant.
func Surrounds(ring []api.Line, p api.Line, sign func(q api.Quad) int) bool {
	above := func(v api.Line) bool {
		_, y := Coordinates(Sub(v, p))
		return sign(y) > 0
	}
	inside := false
	for k := range len(ring) {
		a, b := ring[k], ring[(k+1)%len(ring)]
		// A ray to the right crosses an edge that leads upwards if the point is on the left of it, and one that leads downwards if it is on the right.
		if up := above(b); above(a) != up && (sign(Turn(a, b, p)) > 0) == up {
			inside = !inside
		}
	}
	return inside
}

func SignsAt(t api.Real) func(q api.Quad) int {
	return func(q api.Quad) int { return quadratic.SignAt(q, t) }
}
