package pieces

import (
	"viator/api"
	"viator/linear"
	"viator/quadratic"
)

// Quads, Lines and Labels are the rules of quadratics, of moving points and of constant ints.
type Quads struct{}

type Lines struct{}

type Labels struct{}

func (Quads) Check(f api.Quad) api.Errno { return quadratic.Check(f) }

func (Quads) Equal(f, g api.Quad) bool { return f == g }

func (Quads) Same(f, g api.Quad, t api.Real) bool { return quadratic.Same(f, g, t) }

func (Quads) Reduce(f api.Quad, t api.Real) api.Quad { return quadratic.Reduce(f, t) }

func (Lines) Check(f api.Line) api.Errno {
	x, y := linear.Coordinates(f)
	if e := quadratic.Check(x); e != api.OK {
		return e
	}
	return quadratic.Check(y)
}

func (Lines) Equal(f, g api.Line) bool { return f == g }

func (Lines) Same(f, g api.Line, t api.Real) bool {
	fx, fy := linear.Coordinates(f)
	gx, gy := linear.Coordinates(g)
	return quadratic.Same(fx, gx, t) && quadratic.Same(fy, gy, t)
}

func (Lines) Reduce(f api.Line, t api.Real) api.Line {
	x, y := linear.Coordinates(f)
	return linear.Point(quadratic.Reduce(x, t), quadratic.Reduce(y, t))
}

func (Labels) Check(f int) api.Errno { return api.OK }

func (Labels) Equal(f, g int) bool { return f == g }

func (Labels) Same(f, g int, t api.Real) bool { return f == g }

func (Labels) Reduce(f int, t api.Real) int { return f }
