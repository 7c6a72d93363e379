package envelope

import (
	"viator/api"
	"viator/lists"
	"viator/movinglabel"
	"viator/movingnumber"
	"viator/period"
	"viator/pieces"
)

// Least returns the lower envelope: who has the least value, and that value; Nth does this for the value with a number.
func Least(l []Curve) (who []api.LabelUnit, value []api.NumberUnit) {
	least := lower(l)
	who = lists.Convert(least.who, func(u pieces.Unit[int]) api.LabelUnit { return api.LabelUnit{In: u.In, Label: u.F} })
	return who, numbers(least.value)
}

// named is an envelope in the units of layer 13.
type named struct {
	who   []pieces.Unit[int]
	value []pieces.Unit[api.Quad]
}

// lower returns the lower envelope of curves: it is made from those of both halves of the list.
func lower(l []Curve) named {
	switch len(l) {
	case 0:
		return named{}
	case 1:
		value := lists.Convert(l[0].Units, func(u api.NumberUnit) pieces.Unit[api.Quad] { return pieces.Unit[api.Quad](u) })
		id := func(f api.Quad) int { return l[0].Id }
		return named{who: pieces.Map(pieces.Labels{}, value, id), value: value}
	}
	a, b := lower(l[:len(l)/2]), lower(l[len(l)/2:])
	less := movingnumber.Less(numbers(b.value), numbers(a.value)).True
	first := period.Minus(pieces.Domain(a.value), less) // where values are equal, too: the ids of a are less
	return named{
		who:   prefer(pieces.Labels{}, a.who, b.who, first),
		value: prefer(pieces.Quads{}, a.value, b.value, first),
	}
}

func numbers(l []pieces.Unit[api.Quad]) []api.NumberUnit {
	return lists.Convert(l, func(u pieces.Unit[api.Quad]) api.NumberUnit { return api.NumberUnit(u) })
}

// prefer returns what is a during a period, and otherwise b.
func prefer[F any](r pieces.Rules[F], a, b []pieces.Unit[F], during []api.Interval) []pieces.Unit[F] {
	return pieces.Patch(r, b, pieces.Restrict(r, a, during))
}

func Nth(l []Curve, n int) (who []api.LabelUnit, value []api.NumberUnit, e api.Errno) {
	if n < 0 || n >= api.MaxObjects {
		return nil, nil, api.ErrRange
	}
	for _, o := range Orders(l) {
		if n < len(o.Ids) {
			who = append(who, api.LabelUnit{In: o.In, Label: o.Ids[n]})
		}
	}
	who, _ = movinglabel.Normal(who)
	curves := byId(l)
	for _, id := range movinglabel.Labels(who) {
		value = append(value, movingnumber.Restrict(curves[id].Units, movinglabel.When(who, id))...)
	}
	value, _ = movingnumber.Normal(value)
	return who, value, api.OK
}
