package pieces_test

import (
	"slices"
	"testing"

	"viator/api"
	"viator/period"
	"viator/pieces"
	"viator/quadratic"
	"viator/rational"
	"viator/real"
)

// bitwise returns the value that a function of bits chooses.
func bitwise(n int, choose func(bit int) int) value {
	v := make(value, n)
	for bit := range v {
		v[bit] = choose(bit)
	}
	return v
}

// set returns the period of the instants and gaps with a function.
func (w world[F]) set(v value) []api.Interval {
	var cells []api.Interval
	for _, u := range w.cells(v) {
		cells = append(cells, u.In)
	}
	return period.Normal(cells)
}

// expect complains unless a list is the normal form of a value.
func (w world[F]) expect(t *testing.T, what string, l []pieces.Unit[F], v value) {
	t.Helper()
	if want := w.normal(v); !pieces.Equal(w.rules, l, want) || w.string(l) != w.string(want) {
		t.Errorf("%s = %s; want %s", what, w.string(l), w.string(want))
	}
}

func TestP13_4Restrict(t *testing.T) {
	for _, c := range [][3]string{
		{"[0 2] 0,1; (2 4] 4,-1; [6 8) 0,1", "[1 2), [4 7]", "[1 2) 0,1; [4 4] 0; [6 7] 0,1"}, {"[0 2] 0,1; (2 4] 4,-1", "[2 4]", "[2 4] 4,-1"}, {"[0 2] 0,0,1", "[0+sqrt(2) 0+sqrt(2)]", "[0+sqrt(2) 0+sqrt(2)] 2"}, {"[0 2] 0,1", "", ""}, {"", "[0 1]", ""}, {"[0 2] 0,1", "[-1 1), (1 9]", "[0 1) 0,1; (1 2] 0,1"}, {"[0 1) 0,1; [1 1] 5; (1 2] 0,1", "[1 2]", "[1 1] 5; (1 2] 0,1"}, {"[0 1) 0,1; [1 1] 5; (1 2] 5,5", "[0 1), [3 4]", "[0 1) 0,1"}, {"[0 1] 3; (1 2] 2,1", "[1 1], [2 2]", "[1 1] 3; [2 2] 4"}, {"[0 9] 0,1", "[0 9]", "[0 9] 0,1"}, {"(0 9) 0,1", "[0 9]", "(0 9) 0,1"},
	} {
		if got := pieces.Restrict[api.Quad](pieces.Quads{}, units(c[0]), list(c[1])); showUnits(got) != c[2] {
			t.Errorf("Restrict(%s; %s) = %s; want %s", c[0], c[1], showUnits(got), c[2])
		}
	}
	testRestrict(t, quads())
	testRestrict(t, marks())
}

func testRestrict[F any](t *testing.T, w world[F]) {
	w.each(3, func(v value) {
		for set := range 1 << w.bits() {
			part := bitwise(w.bits(), func(bit int) int {
				if set>>bit&1 == 1 {
					return 0
				}
				return none
			})
			during := w.set(part)
			got := pieces.Restrict(w.rules, w.normal(v), during)
			w.expect(t, "Restrict of "+w.string(w.normal(v)), got, bitwise(w.bits(), func(bit int) int {
				if part[bit] == none {
					return none
				}
				return v[bit]
			}))
		}
	})
}

func TestP13_4Join(t *testing.T) {
	for _, c := range []struct {
		a, b, want string
		e          api.Errno
	}{
		{"[0 2] 0,1; (2 4] 4,-1; [6 8) 0,1", "(4 6) 0,1", "[0 2] 0,1; (2 4] 4,-1; (4 8) 0,1", api.OK}, {"[0 2] 0,1; (2 4] 4,-1", "[4 5] 0", "", api.ErrOverlap}, {"[1 2] 5", "[0 1) 5", "[0 2] 5", api.OK}, {"[0 1) 5", "[1 1] 4", "[0 1) 5; [1 1] 4", api.OK}, {"", "[1 1] 4", "[1 1] 4", api.OK}, {"[1 1] 4", "", "[1 1] 4", api.OK}, {"", "", "", api.OK}, {"[0 9] 0,1", "[3 3] 3", "", api.ErrOverlap}, {"[3 3] 3", "[3 3] 3", "", api.ErrOverlap}, {"[0 3) 0,1; (3 9] 0,1", "[3 3] 3", "[0 9] 0,1", api.OK},
	} {
		if got, e := pieces.Join[api.Quad](pieces.Quads{}, units(c.a), units(c.b)); e != c.e || showUnits(got) != c.want || e != api.OK && got != nil {
			t.Errorf("Join(%s; %s) = %s, %d; want %s, %d", c.a, c.b, showUnits(got), e, c.want, c.e)
		}
	}
	w := quads()
	joined, refused := 0, 0
	w.pairs(197, func(v, u value) {
		got, e := pieces.Join(w.rules, w.normal(v), w.normal(u))
		for bit := range v {
			if v[bit] != none && u[bit] != none {
				if refused++; e != api.ErrOverlap || got != nil {
					t.Errorf("Join(%s; %s) = %s, %d", w.string(w.normal(v)), w.string(w.normal(u)), w.string(got), e)
				}
				return
			}
		}
		joined++
		w.expect(t, "Join of "+w.string(w.normal(v))+" and "+w.string(w.normal(u)), got, bitwise(w.bits(), func(bit int) int { return max(v[bit], u[bit]) }))
	})
	count(t, "Join refused", refused, 1000)
	count(t, "Join joined", joined, 50)
}

func TestP13_4Patch(t *testing.T) {
	for _, c := range [][3]string{
		{"[0 2] 0,1; (2 4] 4,-1; [6 8) 0,1", "[1 3] 0,1", "[0 3] 0,1; (3 4] 4,-1; [6 8) 0,1"}, {"[0 4] 0,1", "[2 2] 5", "[0 2) 0,1; [2 2] 5; (2 4] 0,1"}, {"[0 4] 0,1", "[2 2] 2", "[0 4] 0,1"}, {"[0 4] 0,1", "(1 3) 2", "[0 1] 0,1; (1 3) 2; [3 4] 0,1"}, {"[0 4] 0,1", "", "[0 4] 0,1"}, {"", "[0 4] 0,1", "[0 4] 0,1"}, {"[1 3] 5", "[0 4] 6", "[0 4] 6"}, {"[0 1] 5; (1 2] 6", "[0 1] 6", "[0 2] 6"}, {"[5 6] 1", "[0 1] 1; (1 2] 0,1", "[0 1] 1; (1 2] 0,1; [5 6] 1"},
	} {
		if got := pieces.Patch[api.Quad](pieces.Quads{}, units(c[0]), units(c[1])); showUnits(got) != c[2] {
			t.Errorf("Patch(%s; %s) = %s; want %s", c[0], c[1], showUnits(got), c[2])
		}
	}
	testPatch(t, quads())
	testPatch(t, marks())
}

func testPatch[F any](t *testing.T, w world[F]) {
	w.pairs(197, func(v, u value) {
		got := pieces.Patch(w.rules, w.normal(v), w.normal(u))
		w.expect(t, "Patch of "+w.string(w.normal(v))+" with "+w.string(w.normal(u)), got, bitwise(w.bits(), func(bit int) int {
			if u[bit] != none {
				return u[bit]
			}
			return v[bit]
		}))
	})
}

func TestP13_5Refine(t *testing.T) {
	a := units("[0 2] 0,1; (2 4] 4,-1; [6 8) 0,1; [9 9] 5")
	b := []label{{In: in("[1 3]"), F: 7}, {In: in("(3 7]"), F: 8}, {In: in("[7 7]"), F: 3}, {In: in("(15/2 9]"), F: 8}}
	want := []pieces.Both[api.Quad, int]{
		{In: in("[1 2]"), F: quad("0,1"), G: 7}, {In: in("(2 3]"), F: quad("4,-1"), G: 7}, {In: in("(3 4]"), F: quad("4,-1"), G: 8}, {In: in("[6 7]"), F: quad("0,1"), G: 8}, {In: in("(15/2 8)"), F: quad("0,1"), G: 8}, {In: in("[9 9]"), F: quad("5"), G: 8},
	}
	b = slices.Delete(b, 2, 3) // the instant 7 has a label already
	if got := pieces.Refine(a, b); !slices.Equal(got, want) {
		t.Errorf("Refine = %v", got)
	}
	if pieces.Refine(a, []label{}) != nil || pieces.Refine([]unit(nil), b) != nil {
		t.Error("Refine with nothing")
	}
	// Functions at single instants are left as they are, and equal neighbours are not joined.
	one := pieces.Refine(units("[0 2] 0,0,1"), []label{{In: in("[0 1)"), F: 1}, {In: in("[1 1]"), F: 2}, {In: in("(1 2]"), F: 1}, {In: in("(2 3]"), F: 5}})
	if len(one) != 3 || one[1] != (pieces.Both[api.Quad, int]{In: in("[1 1]"), F: quad("0,0,1"), G: 2}) {
		t.Errorf("Refine = %v", one)
	}
}

// For all pairs of units, the common instants are one element.
func TestP13_5RefineValues(t *testing.T) {
	w, names := quads(), labels()
	names.instants = w.instants
	w.pairs(197, func(v, u value) {
		a, b := w.normal(v), names.normal(u)
		got := pieces.Refine(a, b)
		var want []pieces.Both[api.Quad, int]
		for _, x := range a {
			for _, y := range b {
				for _, common := range period.Intersect([]api.Interval{x.In}, []api.Interval{y.In}) {
					want = append(want, pieces.Both[api.Quad, int]{In: common, F: x.F, G: y.F})
				}
			}
		}
		if !slices.Equal(got, want) {
			t.Errorf("Refine(%s; %s) = %v; want %v", w.string(a), names.string(b), got, want)
		}
		// It covers exactly the instants at which both are defined (P13.7).
		var cover []api.Interval
		for k, x := range got {
			cover = append(cover, x.In)
			if k > 0 && !areInOrder(got[k-1].In, x.In) {
				t.Errorf("Refine(%s; %s) = %v", w.string(a), names.string(b), got)
			}
		}
		if !slices.Equal(period.Normal(cover), period.Intersect(w.set(v), w.set(u))) {
			t.Errorf("Refine(%s; %s) covers %v", w.string(a), names.string(b), cover)
		}
	})
}

func TestP13_5Map(t *testing.T) {
	degree := func(s string) string {
		return showList(pieces.Map[api.Quad, int](pieces.Labels{}, units(s), quadratic.Degree), showInt)
	}
	for s, want := range map[string]string{"": "", "[0 1] 0,1; (1 2] 0,2; [5 6) 1": "[0 2] 1; [5 6) 0", "[0 1) 0,1; [1 1] 5; (1 2] 0,1": "[0 1) 1; [1 1] 0; (1 2] 1", "[0 1) 6; [1 1] 5; (1 2] 0,1": "[0 1] 0; (1 2] 1", "[1 1] 4; (1 2] 5": "[1 2] 0"} {
		if got := degree(s); got != want {
			t.Errorf("the degrees of %s are %s; want %s", s, got, want)
		}
	}
	// What is built is reduced at single instants, and joined.
	square := func(f api.Quad) api.Quad { return quad("0,0,1") }
	if got := pieces.Map[api.Quad, api.Quad](pieces.Quads{}, units("[0 0] 5; [3 4) 7; [4 5] 0,1; [1+sqrt(3) 1+sqrt(3)] 0"), square); showUnits(got) != "[0 0] 0; [1+sqrt(3) 1+sqrt(3)] 2,2; [3 5] 0,0,1" {
		t.Errorf("Map = %s", showUnits(got))
	}
	w, names := quads(), labels()
	names.instants = w.instants
	w.each(1, func(v value) {
		l := w.normal(v)
		got := pieces.Map(names.rules, l, func(f api.Quad) int { return names.functions[kind(f)] })
		names.expect(t, "Map of "+w.string(l), got, bitwise(w.bits(), func(bit int) int {
			f, found := functionAt(l, w.at(bit))
			if !found {
				return none
			}
			return kind(f)
		}))
	})
}

// kind returns a number from 0 to 2 for each function.
func kind(f api.Quad) int { return max(quadratic.Degree(f), 0) }

func TestP13_5Combine(t *testing.T) {
	add := func(a, b string) string {
		return showUnits(pieces.Combine[api.Quad, api.Quad, api.Quad](pieces.Quads{}, units(a), units(b), quadratic.Add))
	}
	for _, c := range [][3]string{
		{"[0 2] 0,1", "[1 3] 1,-1", "[1 2] 1"}, {"[0 2] 0,0,1", "[0+sqrt(2) 0+sqrt(2)] 1", "[0+sqrt(2) 0+sqrt(2)] 3"}, {"[0 2] 0,1", "[2 3] 5", "[2 2] 7"}, {"[0 2] 0,1; (2 3] 2", "[0 2) 2; [2 3] 0,1", "[0 3] 2,1"}, {"[0 1) 5", "[1 2] 5", ""}, {"", "[1 2] 5", ""}, {"[0 4] 1", "[0 1) 5; [1 1] 6; (1 2] 5", "[0 1) 6; [1 1] 7; (1 2] 6"},
	} {
		if got := add(c[0], c[1]); got != c[2] {
			t.Errorf("the sum of %s and %s is %s; want %s", c[0], c[1], got, c[2])
		}
		if c[1] != "[0 2) 2; [2 3] 0,1" && add(c[1], c[0]) != c[2] {
			t.Errorf("the sum of %s and %s is %s", c[1], c[0], add(c[1], c[0]))
		}
	}
	w, names := quads(), labels()
	names.instants = w.instants
	build := func(f api.Quad, g int) int {
		if quadratic.Degree(f) == 0 {
			return g
		}
		return names.functions[0]
	}
	w.pairs(397, func(v, u value) {
		a, b := w.normal(v), names.normal(u)
		got := pieces.Combine(names.rules, a, b, build)
		names.expect(t, "Combine of "+w.string(a)+" and "+names.string(b), got, bitwise(w.bits(), func(bit int) int {
			for _, x := range pieces.Refine(a, b) {
				if contains(x.In, w.at(bit)) {
					return slices.Index(names.functions, build(x.F, x.G))
				}
			}
			return none
		}))
	})
}

func TestP13_6(t *testing.T) {
	shift := func(s, by string) string {
		later := func(f api.Quad) api.Quad { return quadratic.Shift(f, rat(by)) }
		return showUnits(pieces.Shift[api.Quad](pieces.Quads{}, units(s), rat(by), later))
	}
	for _, c := range [][3]string{
		{"[0 2] 0,1", "3", "[3 5] -3,1"}, {"[0 1) 0,1; [1 1] 5; (1 0+sqrt(2)] 0,0,1", "-1/2", "[-1/2 1/2) 1/2,1; [1/2 1/2] 5; (1/2 -1/2+sqrt(2)] 1/4,1,1"}, {"[0 1] 5", "0", "[0 1] 5"}, {"", "7", ""}, {"(0 1) 5; (1 2) 5; [3 3] 1", "1", "(1 2) 5; (2 3) 5; [4 4] 1"},
	} {
		if got := shift(c[0], c[1]); got != c[2] {
			t.Errorf("Shift(%s; %s) = %s; want %s", c[0], c[1], got, c[2])
		}
	}
	// The new functions need not be different where the old ones were.
	same := func(f api.Quad) api.Quad { return quad("0,1") }
	if got := pieces.Shift[api.Quad](pieces.Quads{}, units("[0 1) 0,1; [1 1] 5; (1 2] 7; [3 3] 1"), rat("1/3"), same); showUnits(got) != "[1/3 7/3] 0,1; [10/3 10/3] 10/3" {
		t.Errorf("Shift = %s", showUnits(got))
	}
	w := quads()
	by := rat("-5/3")
	w.each(1, func(v value) {
		l := w.normal(v)
		got := pieces.Shift(w.rules, l, by, func(f api.Quad) api.Quad { return quadratic.Shift(f, by) })
		if e := pieces.Check(w.rules, got); e != api.OK {
			t.Errorf("Shift(%s) = %s", w.string(l), w.string(got))
		}
		for bit := range v {
			f, found := pieces.At(l, w.at(bit))
			g, ok := pieces.At(got, real.Shift(w.at(bit), by))
			if found != ok || quadratic.Shift(f, by) != g {
				t.Errorf("Shift(%s) = %s", w.string(l), w.string(got))
			}
		}
		back := rational.Neg(by)
		if again := pieces.Shift(w.rules, got, back, func(f api.Quad) api.Quad { return quadratic.Shift(f, back) }); !pieces.Equal(w.rules, again, l) {
			t.Errorf("Shift of %s and back = %s", w.string(l), w.string(again))
		}
	})
}

// Restricting to a period and to the rest of the domain, and joining both parts, gives the value. What Patch makes is the patch, and the rest of the base.
func TestP13_7(t *testing.T) {
	testParts(t, quads())
	testParts(t, lines())
	testParts(t, labels())
}

func testParts[F any](t *testing.T, w world[F]) {
	w.pairs(397, func(v, u value) {
		l, during := w.normal(v), w.set(u)
		part := pieces.Restrict(w.rules, l, during)
		rest := pieces.Restrict(w.rules, l, period.Minus(pieces.Domain(l), during))
		if joined, e := pieces.Join(w.rules, part, rest); e != api.OK || !pieces.Equal(w.rules, joined, l) {
			t.Errorf("the parts of %s are joined to %s, %d", w.string(l), w.string(joined), e)
		}
		if joined, e := pieces.Join(w.rules, rest, part); e != api.OK || !pieces.Equal(w.rules, joined, l) {
			t.Errorf("the parts of %s are joined to %s, %d", w.string(l), w.string(joined), e)
		}
		patch := w.normal(u)
		patched := pieces.Patch(w.rules, l, patch)
		if !pieces.Equal(w.rules, pieces.Restrict(w.rules, patched, during), patch) || !pieces.Equal(w.rules, pieces.Restrict(w.rules, patched, period.Minus(pieces.Domain(patched), during)), rest) {
			t.Errorf("Patch of %s with %s = %s", w.string(l), w.string(patch), w.string(patched))
		}
		for _, x := range [][]pieces.Unit[F]{part, rest, patched} {
			if !isNormal(w.rules, x) {
				t.Errorf("%s is not in normal form", w.string(x))
			}
		}
		if !slices.Equal(pieces.Domain(l), w.set(v)) {
			t.Errorf("Domain(%s) = %v", w.string(l), pieces.Domain(l))
		}
	})
}

// Arguments stay as they are, and results have memory of their own.
func TestP13_7Arguments(t *testing.T) {
	r := pieces.Quads{}
	for _, s := range []string{"[0 1) 0,1; [1 1] 5; (1 2] 0,1", "(1 2] 0,1; [0 1) 0,1; [1 1] 1", "[4 5] 1; [2 3] 1; [0 1] 1"} {
		l := append(units(s), units("[9 9] 9; [10 11] 1")...)[:3]
		later := units("[7 8] 3")
		during := list("[0 1], [3 4]")
		before := showUnits(l[:cap(l)]) + showUnits(later)
		use := func(f api.Quad) api.Quad { return f }
		first := func(f, g api.Quad) api.Quad { return f }
		normal, _ := pieces.Normal(r, l)
		joined, _ := pieces.Join(r, l, later)
		for _, result := range [][]unit{normal, joined, pieces.Restrict(r, l, during), pieces.Restrict(r, l, list("[-9 9]")), pieces.Patch(r, l, later), pieces.Patch(r, l, nil), pieces.Patch(r, nil, l), pieces.Map(r, l, use), pieces.Combine(r, l, l, first), pieces.Shift(r, l, rat("0"), use)} {
			clear(result[:cap(result)])
		}
		clear(pieces.Refine(l, l))
		clear(pieces.Domain(l))
		clear(pieces.Ends(l))
		pieces.Check(r, l)
		pieces.At(l, re("1"))
		if after := showUnits(l[:cap(l)]) + showUnits(later); after != before || !slices.Equal(during, list("[0 1], [3 4]")) {
			t.Errorf("the arguments are %s, not %s", after, before)
		}
	}
}
