package pieces

import (
	"slices"

	"viator/api"
)

// assemble returns the normal form of units, in any order, that a function delivers in memory of their own. That function and the rules can be a caller's; if they are nil, or panic, the error is ErrArgument.
func assemble[F any](r Rules[F], units func() []Unit[F]) (list []Unit[F], e api.Errno) {
	defer func() {
		if recover() != nil {
			list, e = nil, api.ErrArgument
		}
	}()
	l := units()
	slices.SortFunc(l, func(u, v Unit[F]) int { return compareBegins(u.In, v.In) })
	for k := range len(l) - 1 {
		if !follows(l[k].In, l[k+1].In) {
			return nil, api.ErrOverlap
		}
	}
	for _, u := range l {
		list = add(r, list, u)
	}
	return list, api.OK
}

// add appends a unit to a list in normal form that ends before it begins.
func add[F any](r Rules[F], list []Unit[F], u Unit[F]) []Unit[F] {
	before := len(list) - 1
	if before < 0 || list[before].In.To != u.In.From {
		return append(list, reduced(r, u))
	}
	last := &list[before]
	if isInstant(last.In) {
		if r.Same(u.F, last.F, u.In.From) {
			// No unit before it had this value at the instant, so that it cannot be joined with u.
			u.In.OpenFrom = false
			list = list[:before]
		}
		return append(list, reduced(r, u))
	}
	if last.In.OpenTo && !u.In.OpenFrom && r.Same(last.F, u.F, u.In.From) {
		last.In.OpenTo = false
		if isInstant(u.In) {
			return list
		}
		u.In.OpenFrom = true
	}
	if !isInstant(u.In) && last.In.OpenTo != u.In.OpenFrom && r.Equal(last.F, u.F) {
		last.In.To, last.In.OpenTo = u.In.To, u.In.OpenTo
		return list
	}
	return append(list, reduced(r, u))
}

// reduced returns a unit whose function is reduced if its interval is an instant.
func reduced[F any](r Rules[F], u Unit[F]) Unit[F] {
	if isInstant(u.In) {
		u.F = r.Reduce(u.F, u.In.From)
	}
	return u
}
