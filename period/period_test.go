package period_test

import (
	"math/rand"
	"slices"
	"testing"

	"viator/api"
	"viator/notation"
	"viator/period"
	"viator/rational"
	"viator/real"
)

// The strings of the tests are those of package notation.
var (
	rat   = notation.Rat
	re    = notation.Real
	reals = notation.Reals
	in    = notation.Interval
	list  = notation.Period
	show  = notation.ShowPeriod
	wrong = notation.Wrong
)

// expect complains unless a result consists of some intervals.
func expect(t *testing.T, what string, got []api.Interval, want string) {
	t.Helper()
	if show(got) != want {
		t.Errorf("%s = %s; want %s", what, show(got), want)
	}
}

// scale is a model of the periods whose ends are among some instants: these instants and the gaps between them are numbered in order, and a period is the set of the bits of those that it consists of.
type scale []api.Real

// scales have ends with different roots, and ends that are close to one another.
func scales() []scale {
	return []scale{reals("-1 1-sqrt(2) 1/2 0+sqrt(2)"), reals("1-sqrt(3) 0 140/99 0+sqrt(2)")}
}

// all returns the number of sets.
func (s scale) all() int { return 1 << (2*len(s) - 1) }

// instants returns an instant of each bit.
func (s scale) instants() []api.Real {
	var all []api.Real
	for k, t := range s {
		if k > 0 {
			between, _ := real.Between(s[k-1], t)
			all = append(all, real.FromRat(between))
		}
		all = append(all, t)
	}
	return all
}

// period returns the normal form of a set.
func (s scale) period(set int) []api.Interval {
	var l []api.Interval
	for bit := 0; set>>bit != 0; bit++ {
		if set>>bit&1 == 0 {
			continue
		}
		last := bit
		for set>>(last+1)&1 == 1 {
			last++
		}
		l = append(l, s.interval(bit, last))
		bit = last
	}
	return l
}

// interval returns the interval of the bits from first to last.
func (s scale) interval(first, last int) api.Interval {
	return api.Interval{From: s[first/2], To: s[(last+1)/2], OpenFrom: first%2 == 1, OpenTo: last%2 == 1}
}

// pairs calls a function with all pairs of sets, and their periods.
func pairs(f func(s scale, x, y int, a, b []api.Interval)) {
	for _, s := range scales() {
		for x := range s.all() {
			for y := range s.all() {
				f(s, x, y, s.period(x), s.period(y))
			}
		}
	}
}

func TestP6_1CheckInterval(t *testing.T) {
	for s, want := range map[string]api.Errno{
		"[0 1]": api.OK, "(0 1)": api.OK, "[0 1)": api.OK, "(0 1]": api.OK, "[1 1]": api.OK, "[0+sqrt(2) 0+sqrt(2)]": api.OK, "(0+sqrt(2) 0+sqrt(3))": api.OK, "(140/99 0+sqrt(2))": api.OK,
		"[1 1)": api.ErrEmpty, "(1 1]": api.ErrEmpty, "(1 1)": api.ErrEmpty, "[2 1]": api.ErrEmpty, "(2 1)": api.ErrEmpty, "[0+sqrt(3) 0+sqrt(2)]": api.ErrEmpty, "[0+sqrt(2) 140/99]": api.ErrEmpty, "(0-sqrt(2) 0-sqrt(2)]": api.ErrEmpty,
	} {
		if e := period.CheckInterval(in(s)); e != want {
			t.Errorf("CheckInterval(%s) = %d; want %d", s, e, want)
		}
	}
	for k, x := range wrong() {
		for _, i := range []api.Interval{{From: x, To: re("9")}, {From: re("-9"), To: x}, {From: x, To: x}, {From: re("9"), To: x}, {From: x, To: re("-9"), OpenTo: true}, {From: x, To: x, OpenFrom: true}} {
			if e := period.CheckInterval(i); e != api.ErrForm {
				t.Errorf("%d: CheckInterval(%v) = %d", k, i, e)
			}
		}
	}
}

func TestP6_1Check(t *testing.T) {
	for s, want := range map[string]api.Errno{
		"": api.OK, "[0 1]": api.OK, "[0 2), (2 3]": api.OK, "[0 1], [2 3]": api.OK, "[0 1], (1+sqrt(2) 3), [3+sqrt(2) 3+sqrt(2)]": api.OK, "(0 1), (1 2), (2 3)": api.OK, "[0 1), [0+sqrt(2) 0+sqrt(2)], (3/2 2)": api.OK,
		"[0 2), [2 3]": api.ErrForm, "[0 2], (2 3]": api.ErrForm, "[0 0], (0 1)": api.ErrForm, "(0 1), [1 1]": api.ErrForm, "(0 0+sqrt(2)), [0+sqrt(2) 2]": api.ErrForm,
		"[0 2], [2 3]": api.ErrOverlap, "[0 2], [1 3]": api.ErrOverlap, "[0 3], [1 2]": api.ErrOverlap, "[2 3], [0 1]": api.ErrOverlap, "[1 1], [1 1]": api.ErrOverlap, "(1 2), (0 1)": api.ErrOverlap, "(0 1), (0 1)": api.ErrOverlap, "[1 2), [0 1]": api.ErrOverlap, "[0 0+sqrt(2)], (140/99 2]": api.ErrOverlap, "[1 1], [0 1)": api.ErrOverlap,
		"[1 0]": api.ErrEmpty, "[0 1], [3 2]": api.ErrEmpty, "[0 3], [2 1]": api.ErrEmpty, "[0 1], (1 1]": api.ErrEmpty,
		"[0 1], [1 2], [4 3]": api.ErrOverlap, "[0 1), [1 2], [1 2]": api.ErrForm, "[0 2], [1 3], (3 4]": api.ErrOverlap, "[1 0], [0 0], [0 0]": api.ErrEmpty,
	} {
		if e := period.Check(list(s)); e != want {
			t.Errorf("Check(%s) = %d; want %d", s, e, want)
		}
	}
	for k, x := range wrong() {
		bad := api.Interval{From: x, To: x, OpenTo: true}
		for s, want := range map[string]api.Errno{"": api.ErrForm, "[0 1]": api.ErrForm, "[-9 9]": api.ErrForm, "[0 1], [1 2]": api.ErrOverlap, "[0 1), [1 2]": api.ErrForm, "[1 1)": api.ErrEmpty} {
			if e := period.Check(append(list(s), bad)); e != want {
				t.Errorf("%d: Check of %s and a wrong number = %d; want %d", k, s, e, want)
			}
		}
		if e := period.Check(append([]api.Interval{bad}, list("[0 1], [0 1]")...)); e != api.ErrForm {
			t.Errorf("%d: Check of a wrong number first = %d", k, e)
		}
	}
}

// All that the model calls a normal form is one, and lists of two intervals are as the model says.
func TestP6_1Model(t *testing.T) {
	for _, s := range scales() {
		for x := range s.all() {
			if e := period.Check(s.period(x)); e != api.OK {
				t.Errorf("Check(%s) = %d", show(s.period(x)), e)
			}
		}
		size := 2*len(s) - 1
		for first := range size {
			for last := first; last < size; last++ {
				for second := range size {
					want := api.OK
					switch {
					case second <= last:
						want = api.ErrOverlap
					case second == last+1:
						want = api.ErrForm
					}
					pair := []api.Interval{s.interval(first, last), s.interval(second, size-1)}
					if e := period.Check(pair); e != want {
						t.Errorf("Check(%s) = %d; want %d", show(pair), e, want)
					}
				}
			}
		}
	}
}

func TestP6_2(t *testing.T) {
	expect(t, "Instant", period.Instant(re("1-sqrt(2)")), "[1-sqrt(2) 1-sqrt(2)]")
	expect(t, "Instant", period.Instant(api.Real{}), "[0 0]")
	for _, c := range [][3]string{{"0", "1", "[0 1]"}, {"1/2", "1/2", "[1/2 1/2]"}, {"-3", "-7/2", ""}, {"-7/2", "-3", "[-7/2 -3]"}, {"1/2", "1/3", ""}, {"1", "0", ""}} {
		expect(t, "Closed of "+c[0]+" and "+c[1], period.Closed(rat(c[0]), rat(c[1])), c[2])
	}
}

func TestP6_3Examples(t *testing.T) {
	expect(t, "Union", period.Union(list("[0 2)"), list("[2 3]")), "[0 3]")
	expect(t, "Union", period.Union(list("[0 2)"), list("(2 3]")), "[0 2), (2 3]")
	expect(t, "Minus", period.Minus(list("[0 3]"), list("[1 1]")), "[0 1), (1 3]")
	expect(t, "Minus", period.Minus(list("[0 3]"), list("(1 0+sqrt(2)), [2 5]")), "[0 1], [0+sqrt(2) 2)")
	expect(t, "Intersect", period.Intersect(list("[0 1], (2 3)"), list("[1 2], [0+sqrt(5) 4]")), "[1 1], [0+sqrt(5) 3)")
	expect(t, "Union of nothing", period.Union(nil, nil), "")
	expect(t, "Minus of nothing", period.Minus(nil, list("[0 1]")), "")
	expect(t, "Intersect with nothing", period.Intersect(list("[0 1]"), []api.Interval{}), "")
}

func TestP6_3Sets(t *testing.T) {
	pairs(func(s scale, x, y int, a, b []api.Interval) {
		for _, c := range []struct {
			name string
			got  []api.Interval
			set  int
		}{{"Union", period.Union(a, b), x | y}, {"Intersect", period.Intersect(a, b), x & y}, {"Minus", period.Minus(a, b), x &^ y}} {
			if want := s.period(c.set); !slices.Equal(c.got, want) {
				t.Errorf("%s of %s and %s is %s; want %s", c.name, show(a), show(b), show(c.got), show(want))
			}
		}
	})
}

func TestP6_3Normal(t *testing.T) {
	for _, c := range [][2]string{
		{"", ""}, {"[1 1]", "[1 1]"}, {"[1 2], [1 2], [1 2]", "[1 2]"}, {"(4 5), [0 2), [2 3], [1 1]", "[0 3], (4 5)"}, {"(1 2), (0 1)", "(0 1), (1 2)"}, {"(1 2), [1 1], (0 1)", "(0 2)"}, {"[0 9], (1 2), [3 4]", "[0 9]"}, {"[0 1], (0 1)", "[0 1]"}, {"(0 1), [0 1)", "[0 1)"},
		{"[0+sqrt(2) 2], (0 0+sqrt(2))", "(0 2]"}, {"(0+sqrt(2) 2], (0 140/99]", "(0 140/99], (0+sqrt(2) 2]"}, {"[2 3], [1 2], [0 1]", "[0 3]"},
	} {
		expect(t, "Normal of "+c[0], period.Normal(list(c[0])), c[1])
	}
	random := rand.New(rand.NewSource(6))
	for _, s := range scales() {
		size := 2*len(s) - 1
		for range 3000 {
			set := 0
			var l []api.Interval
			for range random.Intn(7) {
				first := random.Intn(size)
				last := first + random.Intn(size-first)
				l = append(l, s.interval(first, last))
				set |= 2<<last - 1<<first
			}
			if got, want := period.Normal(l), s.period(set); !slices.Equal(got, want) {
				t.Errorf("Normal(%s) = %s; want %s", show(l), show(got), show(want))
			}
		}
	}
}

func TestP6_4Contains(t *testing.T) {
	for _, s := range scales() {
		for x := range s.all() {
			p := s.period(x)
			for bit, at := range s.instants() {
				if period.Contains(p, at) != (x>>bit&1 == 1) {
					t.Errorf("Contains(%s, %s) is wrong", show(p), real.Print(at))
				}
			}
			if period.Contains(p, re("-10-sqrt(2)")) || period.Contains(p, re("10+sqrt(2)")) {
				t.Errorf("Contains(%s) of an instant outside", show(p))
			}
		}
	}
	many := list("[0 0], (1 2), [3 4), (5 6], (6 7), [8 9], [10 0+sqrt(101)]")
	for s, want := range map[string]bool{"-1": false, "0": true, "1/2": false, "1": false, "3/2": true, "2": false, "3": true, "4": false, "5": false, "6": true, "13/2": true, "7": false, "8": true, "9": true, "10": true, "0+sqrt(101)": true, "1+sqrt(99)": false, "1+sqrt(163/2)": true, "1+sqrt(80)": false, "0+sqrt(3)": true, "0+sqrt(5)": false} {
		if period.Contains(many, re(s)) != want {
			t.Errorf("Contains(%s) is not %v", s, want)
		}
	}
	if period.Contains(nil, api.Real{}) {
		t.Error("Contains of nothing")
	}
}

func TestP6_4Sets(t *testing.T) {
	pairs(func(s scale, x, y int, a, b []api.Interval) {
		if period.Covers(a, b) != (y&^x == 0) || period.Overlaps(a, b) != (x&y != 0) || period.Equal(a, b) != (x == y) {
			t.Errorf("Covers, Overlaps or Equal of %s and %s", show(a), show(b))
		}
	})
	if !period.Covers(nil, nil) || period.Overlaps(nil, nil) {
		t.Error("Covers or Overlaps of nothing")
	}
}

func TestP6_4Equal(t *testing.T) {
	if !period.Equal(nil, nil) || !period.Equal(nil, []api.Interval{}) || !period.Equal([]api.Interval{}, nil) || period.Equal(nil, list("[0 0]")) || period.Equal(list("[0 0]"), nil) {
		t.Error("Equal with nothing")
	}
	// Lists are compared, not the sets of instants.
	for _, c := range [][2]string{{"[0 1], (1 2]", "[0 2]"}, {"[0 1], [2 3]", "[2 3], [0 1]"}, {"[0 1]", "[0 1)"}, {"[0 1]", "(0 1]"}, {"[0 1]", "[0 2]"}, {"[0 0+sqrt(2)]", "[0 0+sqrt(3)]"}, {"[0 1]", "[0 1], [2 3]"}} {
		if period.Equal(list(c[0]), list(c[1])) || !period.Equal(list(c[0]), list(c[0])) {
			t.Errorf("Equal of %s and %s", c[0], c[1])
		}
	}
	for _, x := range wrong() {
		a := []api.Interval{{From: x, To: x}}
		if !period.Equal(a, []api.Interval{{From: x, To: x}}) || period.Equal(a, list("[0 0]")) {
			t.Errorf("Equal of %v", x)
		}
	}
}

func TestP6_5(t *testing.T) {
	expect(t, "Shift", period.Shift(list("[0 1), (1+sqrt(2) 3]"), rat("5/2")), "[5/2 7/2), (7/2+sqrt(2) 11/2]")
	expect(t, "Shift", period.Shift(list("(-1 1-sqrt(2)]"), rat("-1")), "(-2 0-sqrt(2)]")
	expect(t, "Shift of nothing", period.Shift(nil, rat("7")), "")
	for _, s := range scales() {
		for x := range s.all() {
			p := s.period(x)
			for _, by := range []string{"0", "1/3", "-100000000000000000000/7"} {
				later := period.Shift(p, rat(by))
				for bit, at := range s.instants() {
					if period.Contains(later, real.Shift(at, rat(by))) != (x>>bit&1 == 1) {
						t.Errorf("Shift(%s, %s) = %s", show(p), by, show(later))
					}
				}
				if back := period.Shift(later, rational.Neg(rat(by))); !slices.Equal(back, p) || period.Check(later) != api.OK {
					t.Errorf("Shift of %s by %s and back is %s", show(p), by, show(back))
				}
			}
		}
	}
}

func TestP6_6Bounds(t *testing.T) {
	for _, c := range [][2]string{{"[0 1]", "[0 1]"}, {"[0 3], (4 5)", "[0 5)"}, {"(0 1], [2 2], [3 4]", "(0 4]"}, {"(0 1), (1 0+sqrt(2))", "(0 0+sqrt(2))"}, {"[1 1]", "[1 1]"}, {"[1-sqrt(2) 0), (0 1]", "[1-sqrt(2) 1]"}} {
		b, ok := period.Bounds(list(c[0]))
		if b != in(c[1]) || !ok {
			t.Errorf("Bounds(%s) = %v, %v", c[0], show([]api.Interval{b}), ok)
		}
	}
	for _, p := range [][]api.Interval{nil, {}} {
		if b, ok := period.Bounds(p); b != (api.Interval{}) || ok {
			t.Errorf("Bounds of nothing = %v, %v", b, ok)
		}
	}
}

func TestP6_6Ends(t *testing.T) {
	for _, c := range [][2]string{{"", ""}, {"[1 1]", "1"}, {"[0 1]", "0 1"}, {"(0 1), (1 2)", "0 1 2"}, {"[0 0], (1 1+sqrt(2)), (1+sqrt(2) 3], [4 4]", "0 1 1+sqrt(2) 3 4"}, {"(0-sqrt(3) 0-sqrt(2)], [-1 140/99], [0+sqrt(2) 2)", "0-sqrt(3) 0-sqrt(2) -1 140/99 0+sqrt(2) 2"}} {
		if got := period.Ends(list(c[0])); !slices.Equal(got, reals(c[1])) {
			t.Errorf("Ends(%s) = %v; want %s", c[0], got, c[1])
		}
	}
}

func TestP6_6Longer(t *testing.T) {
	const p = "[0 0], (1 2), [0+sqrt(5) 0+sqrt(7)], (3 0+sqrt(10)), (1+sqrt(11) 2+sqrt(11)], [6 8), [0+sqrt(65) 9]"
	for _, c := range [][2]string{
		{"-1", p}, {"0", p}, {"1/1000000", "(1 2), [0+sqrt(5) 0+sqrt(7)], (3 0+sqrt(10)), (1+sqrt(11) 2+sqrt(11)], [6 8), [0+sqrt(65) 9]"}, {"2/5", "(1 2), [0+sqrt(5) 0+sqrt(7)], (1+sqrt(11) 2+sqrt(11)], [6 8), [0+sqrt(65) 9]"},
		{"41/100", "(1 2), (1+sqrt(11) 2+sqrt(11)], [6 8), [0+sqrt(65) 9]"}, {"1", "(1 2), (1+sqrt(11) 2+sqrt(11)], [6 8)"}, {"1000001/1000000", "[6 8)"}, {"2", "[6 8)"}, {"2000001/1000000", ""},
	} {
		expect(t, "Longer for "+c[0], period.Longer(list(p), rat(c[0])), c[1])
	}
	expect(t, "Longer", period.Longer(list("[0 0+sqrt(2)], [2 4)"), rat("3/2")), "[2 4)")
	expect(t, "Longer", period.Longer(list("[0 0+sqrt(2)], [2 4)"), rat("7/5")), "[0 0+sqrt(2)], [2 4)")
	expect(t, "Longer of nothing", period.Longer(nil, rat("0")), "")
	expect(t, "Longer of instants", period.Longer(list("[0+sqrt(2) 0+sqrt(2)]"), rat("0")), "[0+sqrt(2) 0+sqrt(2)]")
}

func TestP6_7Cells(t *testing.T) {
	for _, c := range [][3]string{
		{"[0 2)", "1 2", "[0 0], (0 1), [1 1], (1 2)"}, {"[0 2)", "2 1 7 1", "[0 0], (0 1), [1 1], (1 2)"}, {"[0 2]", "", "[0 0], (0 2), [2 2]"}, {"(0 2)", "", "(0 2)"}, {"(0 2]", "0 0 2", "(0 2), [2 2]"}, {"", "1 2", ""}, {"[1 1]", "", "[1 1]"}, {"[1 1]", "0 1 2", "[1 1]"},
		{"(0 1), (1 2)", "1", "(0 1), (1 2)"}, {"[0 1), (1 2]", "3/2 -5 1/2", "[0 0], (0 1/2), [1/2 1/2], (1/2 1), (1 3/2), [3/2 3/2], (3/2 2), [2 2]"}, {"(0 1], [3 4)", "2 7/2 -1 5", "(0 1), [1 1], [3 3], (3 7/2), [7/2 7/2], (7/2 4)"},
		{"(1 2)", "0+sqrt(3) 0+sqrt(2) 0+sqrt(3) 0-sqrt(2)", "(1 0+sqrt(2)), [0+sqrt(2) 0+sqrt(2)], (0+sqrt(2) 0+sqrt(3)), [0+sqrt(3) 0+sqrt(3)], (0+sqrt(3) 2)"},
	} {
		expect(t, "Cells of "+c[0]+" at "+c[1], period.Cells(list(c[0]), reals(c[1])), c[2])
	}
}

// The cells are found again from the definition: the cut instants, and what is between neighbours.
func TestP6_7CellsOfSets(t *testing.T) {
	random := rand.New(rand.NewSource(7))
	for _, s := range scales() {
		pool := append(s.instants(), reals("-100 0-sqrt(1000) 3/7 0+sqrt(1/3) 100")...)
		for x := range s.all() {
			for range 5 {
				p := s.period(x)
				var at []api.Real
				for range random.Intn(8) {
					at = append(at, pool[random.Intn(len(pool))])
				}
				if got, want := period.Cells(p, at), cells(p, at); !slices.Equal(got, want) {
					t.Errorf("Cells of %s at %v: %s; want %s", show(p), at, show(got), show(want))
				}
			}
		}
	}
}

func cells(p []api.Interval, at []api.Real) []api.Interval {
	cuts := slices.Clone(at)
	for _, i := range p {
		cuts = append(cuts, i.From, i.To)
	}
	slices.SortFunc(cuts, real.Compare)
	cuts = slices.Compact(cuts)
	var all []api.Interval
	for k, cut := range cuts {
		if k > 0 {
			between, _ := real.Between(cuts[k-1], cut)
			if period.Contains(p, real.FromRat(between)) {
				all = append(all, api.Interval{From: cuts[k-1], To: cut, OpenFrom: true, OpenTo: true})
			}
		}
		if period.Contains(p, cut) {
			all = append(all, api.Interval{From: cut, To: cut})
		}
	}
	return all
}

func TestP6_7Pick(t *testing.T) {
	for s, want := range map[string]string{
		"(1 0+sqrt(2))": "4/3", "[1 0+sqrt(2)]": "4/3", "[0+sqrt(2) 0+sqrt(2)]": "0+sqrt(2)", "[5/3 5/3]": "5/3", "[0 0]": "0", "[0 1]": "1/2", "[0 5]": "1", "[-1 1]": "0", "[-1 0]": "-1/2", "(0+sqrt(2) 3/2)": "10/7", "[1/3 1/2]": "2/5", "(0-sqrt(3) 0-sqrt(2)]": "-3/2",
	} {
		if x := period.Pick(in(s)); x != re(want) {
			t.Errorf("Pick(%s) = %s; want %s", s, real.Print(x), want)
		}
	}
}

func TestP6_8(t *testing.T) {
	pairs(func(s scale, x, y int, a, b []api.Interval) {
		difference, both := period.Minus(a, b), period.Intersect(a, b)
		if !slices.Equal(period.Minus(a, difference), both) || !slices.Equal(period.Union(both, difference), a) {
			t.Errorf("the laws of sets for %s and %s", show(a), show(b))
		}
		if period.Check(difference) != api.OK || period.Check(both) != api.OK {
			t.Errorf("the results for %s and %s are not in normal form", show(a), show(b))
		}
	})
	for _, s := range scales() {
		for x := range s.all() {
			p := s.period(x)
			divided := period.Cells(p, s.instants())
			for k, c := range divided {
				if k > 0 && period.Overlaps(period.Normal(divided[:k]), []api.Interval{c}) || !period.Contains([]api.Interval{c}, period.Pick(c)) {
					t.Errorf("cell %d of %s", k, show(p))
				}
			}
			if !slices.Equal(period.Normal(divided), p) || period.Check(period.Longer(p, rat("1/2"))) != api.OK {
				t.Errorf("the union of the cells of %s, or Longer", show(p))
			}
		}
	}
}

// Arguments stay as they are, and results have memory of their own.
func TestP6_8NewResults(t *testing.T) {
	const first, second = "[0 1), (1 3], [4 4]", "(1/2 2), [4 5]"
	a, b, at := list(first), list(second), reals("2 1/2 2 -1")
	l := list("[2 3], [0 1], (1 2)")
	for _, result := range [][]api.Interval{
		period.Normal(l), period.Normal(a), period.Union(a, b), period.Union(a, nil), period.Union(nil, a), period.Intersect(a, b), period.Intersect(a, a), period.Minus(a, b), period.Minus(a, nil), period.Shift(a, api.Rat{}), period.Longer(a, api.Rat{}), period.Cells(a, at), period.Cells(a, nil),
	} {
		for k := range result {
			result[k] = in("(8 9)")
		}
	}
	for _, ends := range [][]api.Real{period.Ends(a), period.Ends(b)} {
		clear(ends)
	}
	expect(t, "the argument", a, first)
	expect(t, "the argument", b, second)
	expect(t, "the argument", l, "[2 3], [0 1], (1 2)")
	if !slices.Equal(at, reals("2 1/2 2 -1")) {
		t.Errorf("the instants are %v", at)
	}
}

// Nothing is specified for values that are not canonical and for lists that are no periods, but no function may panic or go on for ever.
func TestP1NotCanonical(t *testing.T) {
	ends := append(wrong(), reals("0 1 0+sqrt(2)")...)
	for k, x := range ends {
		for n, y := range ends {
			i := api.Interval{From: x, To: y, OpenFrom: k > n, OpenTo: k%2 == 0}
			period.CheckInterval(i)
			period.Instant(x)
			period.Closed(x.P, y.R)
			period.Pick(i)
			for _, z := range ends {
				a, b := []api.Interval{i, {From: z, To: x}}, []api.Interval{{From: y, To: z}, i, i}
				period.Check(a)
				period.Normal(b)
				period.Union(a, b)
				period.Intersect(a, b)
				period.Minus(a, b)
				period.Contains(b, z)
				period.Covers(a, b)
				period.Overlaps(a, b)
				period.Equal(a, b)
				period.Shift(a, z.P)
				period.Bounds(a)
				period.Ends(b)
				period.Longer(a, z.R)
				period.Cells(a, []api.Real{y, z, x})
			}
		}
	}
}
