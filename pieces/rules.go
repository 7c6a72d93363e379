package pieces

import (
	"viator/api"
	"viator/quadratic"
)

// Quads, Lines and Labels are the rules of quadratics, of moving points and of constant ints.
type Quads struct{}

type Lines struct{}

type Labels struct{}

func (Quads) Check(f api.Quad) api.Errno { return quadratic.Check(f) }

func (Quads) Equal(f, g api.Quad) bool { return f == g }

func (Quads) Same(f, g api.Quad, t api.Real) bool { return quadratic.Same(f, g, t) }

func (Quads) Reduce(f api.Quad, t api.Real) api.Quad { return quadratic.Reduce(f, t) }

// coordinates returns the coordinates of a moving point as linear functions.
func coordinates(f api.Line) (x, y api.Quad) {
	return quadratic.Linear(f.X0, f.X1), quadratic.Linear(f.Y0, f.Y1)
}

func (Lines) Check(f api.Line) api.Errno {
	x, y := coordinates(f)
	if e := quadratic.Check(x); e != api.OK {
		return e
	}
	return quadratic.Check(y)
}

func (Lines) Equal(f, g api.Line) bool { return f == g }

func (Lines) Same(f, g api.Line, t api.Real) bool {
	fx, fy := coordinates(f)
	gx, gy := coordinates(g)
	return quadratic.Same(fx, gx, t) && quadratic.Same(fy, gy, t)
}

func (Lines) Reduce(f api.Line, t api.Real) api.Line {
	x, y := coordinates(f)
	x, y = quadratic.Reduce(x, t), quadratic.Reduce(y, t)
	return api.Line{X0: x.C0, X1: x.C1, Y0: y.C0, Y1: y.C1}
}

func (Labels) Check(f int) api.Errno { return api.OK }

func (Labels) Equal(f, g int) bool { return f == g }

func (Labels) Same(f, g int, t api.Real) bool { return f == g }

func (Labels) Reduce(f int, t api.Real) int { return f }
