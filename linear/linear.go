// Package linear contains what several layers need of points that move linearly in time: api.Line as a vector that depends on time.
package linear

import (
	"viator/api"
	"viator/quadratic"
)

// Coordinates returns the coordinates of a moving point as functions of time, and Point the moving point with two linear coordinates.
func Coordinates(f api.Line) (x, y api.Quad) {
	return quadratic.Linear(f.X0, f.X1), quadratic.Linear(f.Y0, f.Y1)
}

func Point(x, y api.Quad) api.Line {
	return api.Line{X0: x.C0, X1: x.C1, Y0: y.C0, Y1: y.C1}
}

// Fixed returns the moving point that rests, and Between the one that is at p at the instant t, and at q at another instant u.
func Fixed(p api.Point) api.Line { return api.Line{X0: p.X, Y0: p.Y} }

func Between(t api.Rat, p api.Point, u api.Rat, q api.Point) (api.Line, api.Errno) {
	x, e := quadratic.Between(t, p.X, u, q.X)
	if e != api.OK {
		return api.Line{}, e
	}
	y, e := quadratic.Between(t, p.Y, u, q.Y)
	return Point(x, y), e
}

// At returns the position at an instant, and AtRat that at a rational one.
func At(f api.Line, t api.Real) api.RealPoint {
	x, y := Coordinates(f)
	return api.RealPoint{X: quadratic.At(x, t), Y: quadratic.At(y, t)}
}

func AtRat(f api.Line, t api.Rat) api.Point {
	x, y := Coordinates(f)
	return api.Point{X: quadratic.Eval(x, t), Y: quadratic.Eval(y, t)}
}

// Velocity returns the velocity, which is constant.
func Velocity(f api.Line) api.Point { return api.Point{X: f.X1, Y: f.Y1} }

// Shift returns a moving point that is later by a number, and Translate one that is elsewhere by a vector.
func Shift(f api.Line, by api.Rat) api.Line {
	x, y := Coordinates(f)
	return Point(quadratic.Shift(x, by), quadratic.Shift(y, by))
}

func Translate(f api.Line, by api.Point) api.Line { return Add(f, Fixed(by)) }

// Add returns the sum of two moving vectors, and Sub the moving vector from g to f.
func Add(f, g api.Line) api.Line { return combine(f, g, quadratic.Add) }

func Sub(f, g api.Line) api.Line { return combine(f, g, quadratic.Sub) }

func combine(f, g api.Line, operation func(p, q api.Quad) api.Quad) api.Line {
	fx, fy := Coordinates(f)
	gx, gy := Coordinates(g)
	return Point(operation(fx, gx), operation(fy, gy))
}

// Cross returns the cross product of two moving vectors, and Dot the scalar product.
func Cross(f, g api.Line) api.Quad {
	fx, fy := Coordinates(f)
	gx, gy := Coordinates(g)
	return quadratic.Sub(product(fx, gy), product(fy, gx))
}

func Dot(f, g api.Line) api.Quad {
	fx, fy := Coordinates(f)
	gx, gy := Coordinates(g)
	return quadratic.Add(product(fx, gx), product(fy, gy))
}

// product returns the product of two linear functions, whose degree is not too high.
func product(p, q api.Quad) api.Quad {
	result, _ := quadratic.Mul(p, q)
	return result
}
