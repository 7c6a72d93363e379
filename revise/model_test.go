package revise_test

import (
	"slices"
	"strconv"
	"strings"
	"testing"

	"viator/api"
	"viator/draws"
	"viator/intake"
	"viator/lists"
	"viator/movingpoint"
	"viator/notation"
	"viator/rational"
	"viator/real"
	"viator/revise"
	"viator/surd"
)

// The strings of the tests are those of package notation.
var (
	rat       = notation.Rat
	units     = notation.PointUnits
	showUnits = notation.ShowPointUnits
	list      = notation.Period
	show      = notation.ShowPeriod
	batch     = notation.Batch
)

// records returns what is made of the parts of a string like "2: .. | 5: ..": of an id, and of the text behind it.
func records[A any](s string, record func(id int, text string) A) []A {
	var l []A
	for _, part := range strings.Split(s, " | ") {
		id, text, found := strings.Cut(part, ":")
		if !found {
			continue
		}
		n, err := strconv.Atoi(id)
		if err != nil {
			panic(part)
		}
		l = append(l, record(n, strings.TrimSpace(text)))
	}
	return l
}

// objects returns the objects of a string like "2: [0 4] 0,1 0; [5 5] 1 1 | 5: [1 3] 9 9", and showObjects such a string.
func objects(s string) []api.Object {
	return records(s, func(id int, text string) api.Object { return api.Object{Id: id, Units: units(text)} })
}

func showObjects(l []api.Object) string {
	return strings.Join(lists.Convert(l, func(o api.Object) string { return strconv.Itoa(o.Id) + ": " + showUnits(o.Units) }), " | ")
}

// changes returns the changes of a string like "2: (0 4) 0,1 0 > (0 2) 0,2 0; [2 4) 4 0 | 5: > [1 3] 9 9", and showChanges such a string.
func changes(s string) []revise.Change {
	return records(s, func(id int, text string) revise.Change {
		retracted, asserted, _ := strings.Cut(text, ">")
		return revise.Change{Object: id, Retracted: units(strings.TrimSpace(retracted)), Asserted: units(strings.TrimSpace(asserted))}
	})
}

func showChanges(l []revise.Change) string {
	return strings.Join(lists.Convert(l, func(c revise.Change) string {
		return strings.TrimRight(strings.ReplaceAll(strconv.Itoa(c.Object)+": "+showUnits(c.Retracted)+" > "+showUnits(c.Asserted), "  ", " "), " ")
	}), " | ")
}

// The following functions tell by the words of the chapter what the functions return.

// positionAt returns the position of a moving point at an instant.
func positionAt(l []api.PointUnit, t api.Real) (api.RealPoint, bool) {
	for _, u := range l {
		if surd.Contains(u.In, t) {
			return surd.Position(u.F, t).Real(), true
		}
	}
	return api.RealPoint{}, false
}

// together tells whether two moving points are at the same position at an instant, and differ whether they differ.
func together(a, b []api.PointUnit, t api.Real) bool {
	p, isA := positionAt(a, t)
	q, isB := positionAt(b, t)
	return isA && isB && p == q
}

func differ(a, b []api.PointUnit, t api.Real) bool {
	_, isA := positionAt(a, t)
	_, isB := positionAt(b, t)
	return (isA || isB) && !together(a, b, t)
}

// instants returns the ends of the units of moving points, the instants at which coordinates of two of them are equal, some instants beside, and one between each two neighbouring ones, in order.
func instants(ways ...[]api.PointUnit) []api.Real {
	special := notation.Reals("-10 -1/3 2-sqrt(1/5) 0+sqrt(5) 10 300")
	meeting := func(x0, x1, y0, y1 api.Rat) {
		if t, e := rational.Div(rational.Sub(y0, x0), rational.Sub(x1, y1)); e == api.OK {
			special = append(special, real.FromRat(t))
		}
	}
	all := slices.Concat(ways...)
	for k, u := range all {
		special = append(special, u.In.From, u.In.To)
		for _, v := range all[:k] {
			meeting(u.F.X0, u.F.X1, v.F.X0, v.F.X1)
			meeting(u.F.Y0, u.F.Y1, v.F.Y0, v.F.Y1)
		}
	}
	return surd.Instants(special)
}

// is tells whether a moving point is in normal form and has, at each of some instants, the position that a function tells, which returns false if there is none.
func is(l []api.PointUnit, instants []api.Real, want func(t api.Real) (api.RealPoint, bool)) bool {
	for _, t := range instants {
		p, defined := positionAt(l, t)
		if q, ok := want(t); defined != ok || ok && p != q {
			return false
		}
	}
	return movingpoint.Check(l) == api.OK
}

// wayOf returns the trajectory of an object, which has no units if the object is not in the list.
func wayOf(l []api.Object, id int) []api.PointUnit {
	for _, o := range l {
		if o.Id == id {
			return o.Units
		}
	}
	return nil
}

// ways returns moving points: each one is made of cells of time, in which it has one of few functions, or none. Every other one differs from the one before in some cells only.
func ways(number int) [][]api.PointUnit {
	draw := draws.From(71)
	ends := notation.Reals("0 1 0+sqrt(2) 2 3 7/2 6")
	functions := units("[0 1] 0,1 0; [0 1] 0 0; [0 1] 2 0; [0 1] 4,-1 0; [0 1] 0,1 0,1; [0 1] 1 1,-1/2; [0 1] 3 0,1")
	const none = -1
	cells := make([]int, 2*len(ends)-1)
	var all [][]api.PointUnit
	for k := range number {
		for c := range cells {
			if k%2 == 0 || draw(4) == 0 {
				cells[c] = draw(len(functions)+2) - 1
			}
			if c > 0 && draw(3) > 0 && k%2 == 0 {
				cells[c] = cells[c-1]
			}
		}
		var l []api.PointUnit
		for c, f := range cells {
			if f != none && f < len(functions) {
				in := api.Interval{From: ends[c/2], To: ends[(c+1)/2], OpenFrom: c%2 == 1, OpenTo: c%2 == 1}
				l = append(l, api.PointUnit{In: in, F: functions[f].F})
			}
		}
		l, e := movingpoint.Normal(l)
		if e != api.OK {
			panic(showUnits(l))
		}
		all = append(all, l)
	}
	return all
}

// pairs calls a function with pairs of moving points, half of which have much in common.
func pairs(f func(a, b []api.PointUnit)) {
	all := ways(400)
	for k, a := range all {
		f(a, all[(k+1)%len(all)])
	}
}

// databases calls a function with two lists of up to 4 objects, some of which are the same, and with some lists twice.
func databases(f func(old, now []api.Object)) {
	draw := draws.From(73)
	all := ways(200)
	for range 200 {
		var lists [2][]api.Object
		for id := 1; id <= 4; id++ {
			k := draw(len(all)/2) * 2
			for n := range lists {
				if way := all[k+n*draw(2)]; draw(4) > 0 && len(way) > 0 {
					lists[n] = append(lists[n], api.Object{Id: id * 7, Units: way})
				}
			}
		}
		if draw(8) == 0 {
			lists[1] = lists[0]
		}
		f(lists[0], lists[1])
	}
}

// from returns an intake to which batches were added, one after another.
func from(t *testing.T, l ...api.Batch) *intake.Intake {
	t.Helper()
	x := intake.New()
	for _, b := range l {
		if _, e := x.Add(b); e != api.OK {
			t.Fatalf("the error of %s is %d", notation.ShowBatch(b), e)
		}
	}
	return x
}
