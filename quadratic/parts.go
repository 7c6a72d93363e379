package quadratic

import (
	"slices"

	"viator/api"
	"viator/rational"
	"viator/real"
)

// Piece is a part of an interval in which a function has one sign: -1, 0 or 1.
type Piece struct {
	In   api.Interval
	Sign int
}

// Signs divides an interval into parts in which a function has one sign, and Where returns the instants at which its sign is one of those that are wanted.
func Signs(q api.Quad, in api.Interval) ([]Piece, api.Errno) {
	if e := checkInterval(in); e != api.OK {
		return nil, e
	}
	var pieces []Piece
	divide(q, in, func(p Piece) { pieces = append(pieces, p) })
	return pieces, api.OK
}

func Where(q api.Quad, in api.Interval, negative, zero, positive bool) ([]api.Interval, api.Errno) {
	if e := checkInterval(in); e != api.OK {
		return nil, e
	}
	wanted := [...]bool{negative, zero, positive}
	var list []api.Interval
	joins := false // whether the part before is wanted, too
	divide(q, in, func(p Piece) {
		switch {
		case !wanted[p.Sign+1]:
			joins = false
		case joins:
			last := &list[len(list)-1]
			last.To, last.OpenTo = p.In.To, p.In.OpenTo
		default:
			list = append(list, p.In)
			joins = true
		}
	})
	return list, api.OK
}

// checkInterval returns the error of an interval whose ends are not canonical, or which is empty.
func checkInterval(in api.Interval) api.Errno {
	if real.Check(in.From) != api.OK || real.Check(in.To) != api.OK {
		return api.ErrForm
	}
	order := real.Compare(in.From, in.To)
	if order > 0 || order == 0 && (in.OpenFrom || in.OpenTo) {
		return api.ErrEmpty
	}
	return api.OK
}

// divide calls a function with the parts of an interval, in order.
func divide(q api.Quad, in api.Interval, part func(p Piece)) {
	from, open := in.From, in.OpenFrom
	for _, root := range rootsWhere(q, within(in)) {
		if from != root {
			before := api.Interval{From: from, To: root, OpenFrom: open, OpenTo: true}
			part(Piece{In: before, Sign: signBetween(q, from, root)})
		}
		part(Piece{In: api.Interval{From: root, To: root}})
		from, open = root, true
	}
	if from != in.To || !open {
		rest := api.Interval{From: from, To: in.To, OpenFrom: open, OpenTo: in.OpenTo}
		part(Piece{In: rest, Sign: signBetween(q, from, in.To)})
	}
}

// rootsWhere returns the roots that are wanted, and none for the function that is 0 everywhere.
func rootsWhere(q api.Quad, wanted func(t api.Real) bool) []api.Real {
	roots, _ := Roots(q)
	return slices.DeleteFunc(roots, func(t api.Real) bool { return !wanted(t) })
}

// within returns a function that tells whether an instant belongs to an interval.
func within(in api.Interval) func(t api.Real) bool {
	return func(t api.Real) bool {
		from, to := real.Compare(in.From, t), real.Compare(t, in.To)
		return (from < 0 || from == 0 && !in.OpenFrom) && (to < 0 || to == 0 && !in.OpenTo)
	}
}

// signBetween returns the sign of a function between two instants between which it has no roots.
func signBetween(q api.Quad, from, to api.Real) int {
	if sign := SignAt(q, from); sign != 0 {
		return sign
	}
	if sign := SignAt(q, to); sign != 0 {
		return sign
	}
	return -rational.Sign(q.C2) // between the two roots of a parabola, or 0 everywhere
}
