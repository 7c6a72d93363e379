package pieces

import (
	"slices"

	"viator/api"
	"viator/period"
	"viator/real"
)

// Restrict returns the part of a value during a period, Join two values that are defined at different instants, and Patch a value in place of another one where it is defined.
func Restrict[F any](r Rules[F], l []Unit[F], during []api.Interval) []Unit[F] {
	list, _ := assemble(r, func() []Unit[F] { return within(l, during) })
	return list
}

// within returns the parts of units during a period.
func within[F any](l []Unit[F], during []api.Interval) []Unit[F] {
	mask := make([]Unit[struct{}], len(during))
	for k, in := range during {
		mask[k].In = in
	}
	var parts []Unit[F]
	for _, b := range Refine(l, mask) {
		parts = append(parts, Unit[F]{In: b.In, F: b.F})
	}
	return parts
}

func Join[F any](r Rules[F], a, b []Unit[F]) ([]Unit[F], api.Errno) {
	return assemble(r, func() []Unit[F] { return slices.Concat(a, b) })
}

func Patch[F any](r Rules[F], base, patch []Unit[F]) []Unit[F] {
	list, _ := assemble(r, func() []Unit[F] {
		rest := period.Minus(Domain(base), Domain(patch))
		return append(within(base, rest), patch...)
	})
	return list
}

// Refine returns the intervals on which two values have one function each, Map a value whose functions are made from those of another one, and Combine one made from two.
func Refine[F, G any](a []Unit[F], b []Unit[G]) []Both[F, G] {
	var list []Both[F, G]
	for len(a) > 0 && len(b) > 0 {
		u, v := a[0], b[0]
		if in, ok := common(u.In, v.In); ok {
			list = append(list, Both[F, G]{In: in, F: u.F, G: v.F})
		}
		if compareEnds(u.In, v.In) < 0 {
			a = a[1:]
		} else {
			b = b[1:]
		}
	}
	return list
}

func Map[F, G any](r Rules[G], l []Unit[F], build func(f F) G) []Unit[G] {
	list, _ := assemble(r, func() []Unit[G] {
		built := make([]Unit[G], len(l))
		for k, u := range l {
			built[k] = Unit[G]{In: u.In, F: build(u.F)}
		}
		return built
	})
	return list
}

func Combine[F, G, H any](r Rules[H], a []Unit[F], b []Unit[G], build func(f F, g G) H) []Unit[H] {
	list, _ := assemble(r, func() []Unit[H] {
		var built []Unit[H]
		for _, x := range Refine(a, b) {
			built = append(built, Unit[H]{In: x.In, F: build(x.F, x.G)})
		}
		return built
	})
	return list
}

// Shift returns a value that is later by a number; its functions are made from the old ones.
func Shift[F any](r Rules[F], l []Unit[F], by api.Rat, later func(f F) F) []Unit[F] {
	list, _ := assemble(r, func() []Unit[F] {
		moved := make([]Unit[F], len(l))
		for k, u := range l {
			in := u.In
			in.From, in.To = real.Shift(in.From, by), real.Shift(in.To, by)
			moved[k] = Unit[F]{In: in, F: later(u.F)}
		}
		return moved
	})
	return list
}
