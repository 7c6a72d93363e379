package movinglabel_test

import (
	"slices"

	"viator/api"
	"viator/notation"
	"viator/real"
)

// The strings of the tests are those of package notation.
var (
	rat       = notation.Rat
	re        = notation.Real
	reals     = notation.Reals
	showReals = notation.ShowReals
	in        = notation.Interval
	list      = notation.Period
	show      = notation.ShowPeriod
	wrong     = notation.Wrong
	units     = notation.LabelUnits
	showUnits = notation.ShowLabelUnits
)

// world is a model: instants, and the gaps between them, are numbered in order, and each of these cells has one of the labels, or none.
type world struct {
	instants []api.Real
	labels   []int
}

// value contains the label of each cell, or none.
type value []int

const none = 1 << 50

func two() world   { return world{reals("-1 0+sqrt(3) 7/4 2+sqrt(5)"), []int{5, -3}} }
func three() world { return world{reals("0 3/2 2+sqrt(2)"), []int{2, 0, 7}} }

func (w world) bits() int { return 2*len(w.instants) - 1 }

// cell returns a cell as an interval, and at returns an instant of it.
func (w world) cell(bit int) api.Interval {
	return api.Interval{From: w.instants[bit/2], To: w.instants[(bit+1)/2], OpenFrom: bit%2 == 1, OpenTo: bit%2 == 1}
}

func (w world) at(bit int) api.Real {
	c := w.cell(bit)
	if c.From == c.To {
		return c.From
	}
	between, _ := real.Between(c.From, c.To)
	return real.FromRat(between)
}

// values returns all values.
func (w world) values() []value {
	var all []value
	count, n := 1, len(w.labels)+1
	for range w.bits() {
		count *= n
	}
	for number := range count {
		v := make(value, w.bits())
		for bit := range v {
			v[bit] = append(w.labels, none)[number%n]
			number /= n
		}
		all = append(all, v)
	}
	return all
}

// cells returns a unit for each cell with a label.
func (w world) cells(v value) []api.LabelUnit {
	var l []api.LabelUnit
	for bit, label := range v {
		if label != none {
			l = append(l, api.LabelUnit{In: w.cell(bit), Label: label})
		}
	}
	return l
}

// units returns the maximal intervals with one label.
func (w world) units(v value) []api.LabelUnit {
	var l []api.LabelUnit
	for bit, label := range v {
		c := w.cell(bit)
		switch {
		case label == none:
		case bit > 0 && v[bit-1] == label:
			last := &l[len(l)-1]
			last.In.To, last.In.OpenTo = c.To, c.OpenTo
		default:
			l = append(l, api.LabelUnit{In: c, Label: label})
		}
	}
	return l
}

// period returns the period of the cells that are wanted.
func (w world) period(wanted func(bit int) bool) []api.Interval {
	v := make(value, w.bits())
	for bit := range v {
		if v[bit] = none; wanted(bit) {
			v[bit] = 1
		}
	}
	var l []api.Interval
	for _, u := range w.units(v) {
		l = append(l, u.In)
	}
	return l
}

// each calls a function with all values, and the normal forms of them.
func each(f func(w world, v value, l []api.LabelUnit)) {
	for _, w := range []world{two(), three()} {
		for _, v := range w.values() {
			f(w, v, w.units(v))
		}
	}
}

// pairs calls a function with some of the pairs of values.
func pairs(f func(w world, v, u value, a, b []api.LabelUnit)) {
	for _, w := range []world{two(), three()} {
		all := w.values()
		for k := 0; k < len(all)*len(all); k += 607 {
			v, u := all[k/len(all)], all[k%len(all)]
			f(w, v, u, w.units(v), w.units(u))
		}
	}
}

// combined returns the value that has, in each cell, the label that a function makes of those of two values.
func combined(v, u value, f func(a, b int) int) value {
	w := slices.Clone(v)
	for bit := range w {
		w[bit] = f(v[bit], u[bit])
	}
	return w
}
