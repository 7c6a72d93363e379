package envelope_test

import (
	"cmp"
	"slices"
	"strconv"
	"strings"

	"viator/api"
	"viator/envelope"
	"viator/lists"
	"viator/movingnumber"
	"viator/notation"
	"viator/rational"
	"viator/real"
	"viator/surd"
)

// The strings of the tests are those of package notation.
var (
	rat         = notation.Rat
	re          = notation.Real
	reals       = notation.Reals
	showReals   = notation.ShowReals
	in          = notation.Interval
	show        = notation.ShowPeriod
	numbers     = notation.NumberUnits
	showNumbers = notation.ShowNumberUnits
	showLabels  = notation.ShowLabelUnits
	wrong       = notation.Wrong
	contains    = surd.Contains
)

// curves returns the curves of a string like "1: [0 4] 0,1 | 2: [0 1] 4,-1; (3 4] 7".
func curves(s string) []envelope.Curve {
	var l []envelope.Curve
	for _, part := range strings.Split(s, " | ") {
		id, text, _ := strings.Cut(part, ":")
		if n, err := strconv.Atoi(id); err == nil {
			l = append(l, envelope.Curve{Id: n, Units: numbers(text)})
		}
	}
	return l
}

func showCurves(l []envelope.Curve) string {
	return strings.Join(lists.Convert(l, func(c envelope.Curve) string { return strconv.Itoa(c.Id) + ": " + showNumbers(c.Units) }), " | ")
}

// showIds returns a string like "3 1 2", and showOrders one like "[0 2] 1 2; (2 4] 2 1".
func showIds(ids []int) string { return strings.Join(lists.Convert(ids, strconv.Itoa), " ") }

func showOrders(l []envelope.Order) string {
	return strings.Join(lists.Convert(l, func(o envelope.Order) string { return notation.ShowInterval(o.In) + " " + showIds(o.Ids) }), "; ")
}

// numbersOfTime contains moving numbers: some of them meet others in a point, cross them, are equal to them for some time, or have no value for a time.
func numbersOfTime() []string {
	return []string{
		"[0 4] 0,1", "[0 4] 4,-1", "[0 4] 2", "[0 4] 4,-4,1", "[0 2] 0,0,1; (2 4] 4", "", "[0 4] 0,1", "[-1 1) 1; [1 1] 7; (1 3] 1", "[0+sqrt(2) 0+sqrt(2)] 2", "(0 3) -1,2", "[0 1] 0,1; (1 3) 1; [3 5] 1", "[0 2) 0,0,1; (2 4] 0,0,1",
		"[-2 5] -2,0,1", "[-2 5] 2,0,-1", "[1 1] 1; [2 2] 2; [3 3] 1", "[0 4) 6,-5,1", "[0+sqrt(2) 0+sqrt(3)] 0,1; (0+sqrt(3) 3] 3,-1", "[0 4] 1/2,1", "(-1 0+sqrt(2)] 0,0,1; (0+sqrt(2) 2] 2; (2 5] 0,1", "[0 1) 3; (1 2) 3; [2 4] 5,-1", "[1+sqrt(3) 9] 2,2", "[-3 9] 3", "[0 4] 4,-4,1", "[0 3] 0; (3 4] -3,1",
	}
}

// sets calls a function with lists of curves: single ones, pairs, and some with up to six of them.
func sets(f func(l []envelope.Curve)) {
	texts := numbersOfTime()
	use := func(places ...int) {
		var l []envelope.Curve
		for k, n := range places {
			units, e := movingnumber.Normal(numbers(texts[n%len(texts)]))
			if e != api.OK {
				panic(texts[n])
			}
			l = append(l, envelope.Curve{Id: 3*k + n%2 + 1, Units: units})
		}
		if e := envelope.Check(l); e != api.OK {
			panic(showCurves(l))
		}
		f(l)
	}
	use()
	for k := range texts {
		use(k)
		for n := range texts {
			use(k, n)
		}
		use(k, k+1, k+2)
		use(k+5, k, k+3, k+2)
		use(5*k, 7*k+1, 11*k+2, 13*k+3, k)
		use(k, k+6, k+4, k+9, k+1, k+15)
	}
}

// valueAt returns the value of a curve at an instant.
func valueAt(c envelope.Curve, t api.Real) (surd.Number, bool) {
	for _, u := range c.Units {
		if contains(u.In, t) {
			return surd.Value(u.F, t), true
		}
	}
	return surd.Number{}, false
}

// orderAt returns the order at an instant, by the words of the chapter.
func orderAt(l []envelope.Curve, t api.Real) []int {
	values := map[int]api.Real{}
	var ids []int
	for _, c := range l {
		if value, ok := valueAt(c, t); ok {
			values[c.Id] = value.Real()
			ids = append(ids, c.Id)
		}
	}
	slices.SortFunc(ids, func(i, j int) int {
		if order := real.Compare(values[i], values[j]); order != 0 {
			return order
		}
		return cmp.Compare(i, j)
	})
	return ids
}

// instants returns the instants at which the order of curves can change, and some others, in order, and one between each two neighbouring ones.
func instants(l []envelope.Curve) []api.Real {
	special := reals("-10 -1/3 7/5 0+sqrt(5) 10")
	var functions []api.Quad
	for _, c := range l {
		for _, u := range c.Units {
			special = append(special, u.In.From, u.In.To)
			functions = append(functions, u.F)
		}
	}
	for k, f := range functions {
		for _, g := range functions[:k] {
			difference := api.Quad{C0: rational.Sub(f.C0, g.C0), C1: rational.Sub(f.C1, g.C1), C2: rational.Sub(f.C2, g.C2)}
			roots, _ := real.Roots(difference)
			special = append(special, roots...)
		}
	}
	return surd.Instants(special)
}

// curveWith returns the curve with an id.
func curveWith(l []envelope.Curve, id int) envelope.Curve {
	for _, c := range l {
		if c.Id == id {
			return c
		}
	}
	panic(id)
}
