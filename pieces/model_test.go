package pieces_test

import (
	"slices"
	"strings"
	"testing"

	"viator/api"
	"viator/integer"
	"viator/notation"
	"viator/pieces"
	"viator/quadratic"
	"viator/rational"
	"viator/real"
)

// The strings of the tests are those of package notation.
var (
	rat      = notation.Rat
	re       = notation.Real
	reals    = notation.Reals
	in       = notation.Interval
	list     = notation.Period
	quad     = notation.Quad
	showQuad = notation.ShowQuad
	wrong    = notation.Wrong
	show     = notation.ShowInterval
)

type (
	unit  = pieces.Unit[api.Quad]
	label = pieces.Unit[int]
)

// units returns the units that a string like "[0 1) 0,1; [1 1] 5" shows.
func units(s string) []unit {
	var l []unit
	for _, part := range strings.Split(s, "; ") {
		if words := strings.Fields(part); len(words) == 3 {
			l = append(l, unit{In: in(words[0] + " " + words[1]), F: quad(words[2])})
		}
	}
	return l
}

func showUnits(l []unit) string {
	return showList(l, showQuad)
}

func showList[F any](l []pieces.Unit[F], show1 func(f F) string) string {
	var parts []string
	for _, u := range l {
		parts = append(parts, show(u.In)+" "+show1(u.F))
	}
	return strings.Join(parts, "; ")
}

// tagged is a function that cannot be compared by ==: its tags do not matter. A function with the tag "bad" is not valid.
type tagged struct {
	q    api.Quad
	tags []string
}

type tags struct{}

func (tags) Check(f tagged) api.Errno {
	if slices.Contains(f.tags, "bad") {
		return api.ErrName
	}
	return api.OK
}

func (tags) Equal(f, g tagged) bool { return f.q == g.q }

func (tags) Same(f, g tagged, t api.Real) bool { return quadratic.Same(f.q, g.q, t) }

func (tags) Reduce(f tagged, t api.Real) tagged {
	return tagged{q: quadratic.Reduce(f.q, t), tags: []string{"reduced"}}
}

// world is a model: instants, and the gaps between them, are numbered in order, and each one has one of the functions, or none. Functions of different numbers are different, but some have the same value at some of the instants.
type world[F any] struct {
	rules     pieces.Rules[F]
	show      func(f F) string
	instants  []api.Real
	functions []F
}

// value contains the number of the function at each instant and gap, or none.
type value []int

const none = -1

func (w world[F]) bits() int { return 2*len(w.instants) - 1 }

// cell returns an instant or a gap as an interval, and at returns an instant of it.
func (w world[F]) cell(bit int) api.Interval {
	return api.Interval{From: w.instants[bit/2], To: w.instants[(bit+1)/2], OpenFrom: bit%2 == 1, OpenTo: bit%2 == 1}
}

func (w world[F]) at(bit int) api.Real {
	c := w.cell(bit)
	if c.From == c.To {
		return c.From
	}
	between, _ := real.Between(c.From, c.To)
	return real.FromRat(between)
}

// values returns all values, or only every so many of them.
func (w world[F]) values(step int) []value {
	var all []value
	now := make(value, w.bits())
	n := len(w.functions) + 1
	count := 1
	for range now {
		count *= n
	}
	for number := 0; number < count; number += step {
		rest := number
		for bit := range now {
			now[bit] = rest%n - 1
			rest /= n
		}
		all = append(all, slices.Clone(now))
	}
	return all
}

// cells returns a unit for each instant and each gap with a function, which is not reduced.
func (w world[F]) cells(v value) []pieces.Unit[F] {
	var l []pieces.Unit[F]
	for bit, number := range v {
		if number != none {
			l = append(l, pieces.Unit[F]{In: w.cell(bit), F: w.functions[number]})
		}
	}
	return l
}

// shreds returns units in another order that describe the same value: every gap is divided at an instant.
func (w world[F]) shreds(v value) []pieces.Unit[F] {
	var l []pieces.Unit[F]
	for bit, number := range v {
		if number == none {
			continue
		}
		f, c, m := w.functions[number], w.cell(bit), w.at(bit)
		if bit%2 == 0 {
			l = append(l, pieces.Unit[F]{In: c, F: f})
			continue
		}
		left, right := c, c
		left.To, right.From = m, m
		right.OpenFrom = number%2 == 0
		l = append(l, pieces.Unit[F]{In: right, F: f}, pieces.Unit[F]{In: left, F: f})
		if right.OpenFrom {
			l = append(l, pieces.Unit[F]{In: api.Interval{From: m, To: m}, F: f})
		}
	}
	slices.Reverse(l)
	return l
}

// normal returns the normal form of a value.
func (w world[F]) normal(v value) []pieces.Unit[F] {
	l, e := pieces.Normal(w.rules, w.cells(v))
	if e != api.OK {
		panic(e)
	}
	return l
}

// string returns what is equal exactly for equal lists.
func (w world[F]) string(l []pieces.Unit[F]) string { return showList(l, w.show) }

// meaning returns what is equal exactly for values that are the same: at each instant, all functions with the value there count as the first one of them.
func (w world[F]) meaning(v value) string {
	var text strings.Builder
	for bit, number := range v {
		if number != none && bit%2 == 0 {
			number = slices.IndexFunc(w.functions, func(f F) bool { return w.rules.Same(f, w.functions[v[bit]], w.at(bit)) })
		}
		text.WriteByte(byte('1' + number))
	}
	return text.String()
}

// describes tells whether a list describes a value: at all instants of the model, and at one of each gap. What a list says of an instant is found without package pieces.
func (w world[F]) describes(l []pieces.Unit[F], v value) bool {
	for bit, number := range v {
		f, found := functionAt(l, w.at(bit))
		switch {
		case found != (number != none):
			return false
		case found && bit%2 == 0 && !w.rules.Same(f, w.functions[number], w.at(bit)):
			return false
		case found && bit%2 == 1 && !w.rules.Equal(f, w.functions[number]):
			return false
		}
	}
	return true
}

// functionAt returns the function of the unit that contains an instant.
func functionAt[F any](l []pieces.Unit[F], t api.Real) (f F, found bool) {
	for _, u := range l {
		if contains(u.In, t) {
			return u.F, true
		}
	}
	return f, false
}

func contains(i api.Interval, t api.Real) bool {
	from, to := real.Compare(i.From, t), real.Compare(t, i.To)
	return (from < 0 || from == 0 && !i.OpenFrom) && (to < 0 || to == 0 && !i.OpenTo)
}

// isNormal tells whether a list of valid units is in normal form, by the words of the chapter.
func isNormal[F any](r pieces.Rules[F], l []pieces.Unit[F]) bool {
	for k, u := range l {
		long := u.In.From != u.In.To
		if !long && !r.Equal(u.F, r.Reduce(u.F, u.In.From)) {
			return false // rule 1
		}
		if k > 0 && !areInOrder(l[k-1].In, u.In) {
			return false // rule 1
		}
		if g, found := functionAt(l, u.In.To); long && found && r.Same(u.F, g, u.In.To) && u.In.OpenTo {
			return false // rule 2
		}
		if g, found := functionAt(l, u.In.From); long && found && r.Same(u.F, g, u.In.From) && u.In.OpenFrom && !endsWith(l, u.In.From) {
			return false // rule 3
		}
		if k > 0 && long && l[k-1].In.From != l[k-1].In.To && unite(l[k-1].In, u.In) && r.Equal(l[k-1].F, u.F) {
			return false // rule 4
		}
	}
	return true
}

// areInOrder tells whether an interval is before another one, without a common instant.
func areInOrder(a, b api.Interval) bool {
	order := real.Compare(a.To, b.From)
	return order < 0 || order == 0 && !(contains(a, a.To) && contains(b, a.To))
}

// unite tells whether the union of two intervals in order is an interval.
func unite(a, b api.Interval) bool {
	return a.To == b.From && (contains(a, a.To) || contains(b, a.To))
}

// endsWith tells whether a unit that is longer than one instant contains an instant as its end.
func endsWith[F any](l []pieces.Unit[F], t api.Real) bool {
	return slices.ContainsFunc(l, func(u pieces.Unit[F]) bool {
		return u.In.From != u.In.To && u.In.To == t && !u.In.OpenTo
	})
}

// each calls a function with every so many of the values of a world.
func (w world[F]) each(step int, f func(v value)) {
	for _, v := range w.values(step) {
		f(v)
	}
}

// pairs calls a function with every so many of the pairs of values.
func (w world[F]) pairs(step int, f func(v, u value)) {
	all := w.values(1)
	for k := 0; k < len(all)*len(all); k += step {
		f(all[k/len(all)], all[k%len(all)])
	}
}

// quads is a world in which t*t is 2 at the root of 2, and 2t at 0 and 2.
func quads() world[api.Quad] {
	return world[api.Quad]{pieces.Quads{}, showQuad, reals("0 0+sqrt(2) 2"), []api.Quad{quad("0,0,1"), quad("2"), quad("0,2")}}
}

// lines is a world in which the second line is where the first one is at 1, and where the third one is at 3. The second and the third one have one coordinate in common all the time.
func lines() world[api.Line] {
	line := func(s string) api.Line {
		c := strings.Split(s, ",")
		return api.Line{X0: rat(c[0]), X1: rat(c[1]), Y0: rat(c[2]), Y1: rat(c[3])}
	}
	return world[api.Line]{pieces.Lines{}, showLine, reals("1-sqrt(2) 1 3"), []api.Line{line("0,1,5,0"), line("2,-1,5,0"), line("2,-1,8,-1")}}
}

func showLine(f api.Line) string {
	return rational.Print(f.X0) + "," + rational.Print(f.X1) + " " + rational.Print(f.Y0) + "," + rational.Print(f.Y1)
}

func labels() world[int] {
	return world[int]{pieces.Labels{}, showInt, reals("-1 0+sqrt(3) 7/4"), []int{1, 0, -7}}
}

func showInt(n int) string { return integer.Print(integer.FromInt(n)) }

// marks is the world of quads with functions that cannot be compared by ==.
func marks() world[tagged] {
	w := world[tagged]{rules: tags{}, show: func(f tagged) string { return showQuad(f.q) }, instants: quads().instants}
	for k, q := range quads().functions {
		w.functions = append(w.functions, tagged{q, []string{showInt(k)}})
	}
	return w
}

// count complains unless something has happened often enough for a test to mean something.
func count(t *testing.T, what string, times, enough int) {
	t.Helper()
	if times < enough {
		t.Errorf("%s: %d times only", what, times)
	}
}
