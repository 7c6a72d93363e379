package movingbool_test

import (
	"testing"

	"viator/api"
	"viator/movingbool"
	"viator/period"
	"viator/rational"
	"viator/real"
)

// operation is one of two moving Booleans, with what it does to values: 1, 0, and -1 for none.
type operation struct {
	name string
	f    func(a, b api.Bool) api.Bool
	of   func(v, w int) int
}

// operations returns the lifted ones, and Either.
func operations() []operation {
	lifted := func(value func(v, w int) int) func(v, w int) int {
		return func(v, w int) int {
			if min(v, w) < 0 {
				return -1
			}
			return value(v, w)
		}
	}
	return []operation{
		{"And", movingbool.And, lifted(func(v, w int) int { return v * w })},
		{"Or", movingbool.Or, lifted(func(v, w int) int { return max(v, w) })},
		{"Differ", movingbool.Differ, lifted(func(v, w int) int { return v ^ w })},
		{"Either", movingbool.Either, func(v, w int) int {
			if v == 1 || w == 1 {
				return 1
			}
			return min(v, w)
		}},
	}
}

// same complains unless a result is valid, and the moving Boolean with some values.
func same(t *testing.T, what string, got api.Bool, s scale, value func(bit int) int) {
	t.Helper()
	want := s.bool(s.make(value))
	if movingbool.Check(got) != api.OK || !period.Equal(got.Domain, want.Domain) || !period.Equal(got.True, want.True) {
		t.Errorf("%s = %s; want %s", what, showBool(got), showBool(want))
	}
}

func TestP12_3(t *testing.T) {
	pairs(func(s scale, v, w truth, a, b api.Bool) {
		for _, o := range operations() {
			same(t, o.name+" of "+showBool(a)+" and "+showBool(b), o.f(a, b), s, func(bit int) int { return o.of(v.at(bit), w.at(bit)) })
		}
	})
	each(func(s scale, v truth, b api.Bool) {
		same(t, "Not of "+showBool(b), movingbool.Not(b), s, func(bit int) int {
			if v.at(bit) < 0 {
				return -1
			}
			return 1 - v.at(bit)
		})
	})
}

func TestP12_3Examples(t *testing.T) {
	b, late := example(), movingbool.Constant(true, list("[3 12]"))
	expect(t, "Not", movingbool.Not(b), "[0 10]", "[0 2), [4 10]")
	expect(t, "And", movingbool.And(b, late), "[3 10]", "[3 4)")
	expect(t, "Or", movingbool.Or(b, late), "[3 10]", "[3 10]")
	expect(t, "Differ", movingbool.Differ(b, late), "[3 10]", "[4 10]")
	expect(t, "Either", movingbool.Either(b, late), "[2 12]", "[2 12]")
	expect(t, "Either", movingbool.Either(b, movingbool.Not(late)), "[2 10]", "[2 4)")
	expect(t, "Either", movingbool.Either(b, movingbool.Constant(true, list("[20 21]"))), "[2 4), [20 21]", "[2 4), [20 21]")
	expect(t, "Either", movingbool.Either(b, api.Bool{}), "[2 4)", "[2 4)")
	expect(t, "And", movingbool.And(b, api.Bool{}), "", "")
}

func TestP12_4(t *testing.T) {
	pairs(func(s scale, v, w truth, a, b api.Bool) {
		during := b.Domain
		same(t, "Restrict of "+showBool(a)+" to "+show(during), movingbool.Restrict(a, during), s, func(bit int) int {
			if w.at(bit) < 0 {
				return -1
			}
			return v.at(bit)
		})
		for _, value := range []bool{false, true} {
			same(t, "Extend of "+showBool(a)+" to "+show(during), movingbool.Extend(a, during, value), s, func(bit int) int {
				switch {
				case v.at(bit) >= 0:
					return v.at(bit)
				case w.at(bit) >= 0 && value:
					return 1
				}
				return min(w.at(bit), 0)
			})
		}
	})
}

func TestP12_4Join(t *testing.T) {
	conflicts := 0
	pairs(func(s scale, v, w truth, a, b api.Bool) {
		got, e := movingbool.Join(a, b)
		for bit := range s.bits() {
			if v.at(bit)+w.at(bit) == 1 && v.at(bit)*w.at(bit) == 0 { // one is true, and the other one false
				if conflicts++; e != api.ErrConflict || got.Domain != nil || got.True != nil {
					t.Errorf("Join(%s; %s) = %s, %d", showBool(a), showBool(b), showBool(got), e)
				}
				return
			}
		}
		if e != api.OK {
			t.Errorf("Join(%s; %s): %d", showBool(a), showBool(b), e)
		}
		same(t, "Join of "+showBool(a)+" and "+showBool(b), got, s, func(bit int) int { return max(v.at(bit), w.at(bit)) })
	})
	if conflicts < 1000 {
		t.Errorf("%d conflicts", conflicts)
	}
	b := example()
	for _, c := range []struct {
		a api.Bool
		e api.Errno
	}{{movingbool.Not(b), api.ErrConflict}, {moving("[4 12]", "[4 4]"), api.ErrConflict}, {moving("[7/2 11]", ""), api.ErrConflict}, {moving("[4 12]", "(10 12]"), api.OK}, {b, api.OK}, {api.Bool{}, api.OK}} {
		if _, e := movingbool.Join(b, c.a); e != c.e {
			t.Errorf("Join(%s; %s): %d", showBool(b), showBool(c.a), e)
		}
		if _, e := movingbool.Join(c.a, b); e != c.e {
			t.Errorf("Join(%s; %s): %d", showBool(c.a), showBool(b), e)
		}
	}
}

func TestP12_4Shift(t *testing.T) {
	expect(t, "Shift", movingbool.Shift(example(), rat("5")), "[5 15]", "[7 9)")
	expect(t, "Shift", movingbool.Shift(moving("[0 0], (1 1+sqrt(2))", "(1 0+sqrt(2)]"), rat("-1/2")), "[-1/2 -1/2], (1/2 1/2+sqrt(2))", "(1/2 -1/2+sqrt(2)]")
	expect(t, "Shift", movingbool.Shift(api.Bool{}, rat("5")), "", "")
	each(func(s scale, v truth, b api.Bool) {
		for _, by := range []string{"0", "1/3", "-100000000000000000000/7"} {
			later := movingbool.Shift(b, rat(by))
			for bit, at := range s.instants() {
				value, defined := movingbool.At(later, real.Shift(at, rat(by)))
				if value != (v.at(bit) == 1) || defined != (v.at(bit) >= 0) {
					t.Errorf("Shift(%s; %s) = %s", showBool(b), by, showBool(later))
				}
			}
			if movingbool.Check(later) != api.OK || !movingbool.Equal(movingbool.Shift(later, rational.Neg(rat(by))), b) {
				t.Errorf("Shift of %s by %s and back", showBool(b), by)
			}
		}
	})
}

func TestP12_4Examples(t *testing.T) {
	b := example()
	expect(t, "Restrict", movingbool.Restrict(b, list("[-1 1), [3 5]")), "[0 1), [3 5]", "[3 4)")
	expect(t, "Restrict", movingbool.Restrict(b, nil), "", "")
	expect(t, "Extend", movingbool.Extend(b, list("[9 12]"), true), "[0 12]", "[2 4), (10 12]")
	expect(t, "Extend", movingbool.Extend(b, list("[9 12]"), false), "[0 12]", "[2 4)")
	expect(t, "Extend", movingbool.Extend(b, list("[-2 -1], (3 4)"), true), "[-2 -1], [0 10]", "[-2 -1], [2 4)")
	expect(t, "Extend", movingbool.Extend(b, nil, true), "[0 10]", "[2 4)")
	expect(t, "Extend", movingbool.Extend(api.Bool{}, list("(0 0+sqrt(2)]"), true), "(0 0+sqrt(2)]", "(0 0+sqrt(2)]")
	joined, e := movingbool.Join(b, moving("[10 12], [15 16]", "(10 11]"))
	if e != api.OK {
		t.Errorf("Join: %d", e)
	}
	expect(t, "Join", joined, "[0 12], [15 16]", "[2 4), (10 11]")
}

func TestP12_7(t *testing.T) {
	and, or, not := movingbool.And, movingbool.Or, movingbool.Not
	pairs(func(s scale, v, w truth, a, b api.Bool) {
		for k, equal := range [][2]api.Bool{
			{not(and(a, b)), or(not(a), not(b))}, {not(or(a, b)), and(not(a), not(b))}, {not(not(a)), a}, {and(a, b), and(b, a)}, {or(a, b), or(b, a)}, {movingbool.Differ(a, b), or(and(a, not(b)), and(not(a), b))}, {and(a, or(a, b)), movingbool.Restrict(a, b.Domain)}, {or(a, and(b, not(a))), or(a, b)},
			{movingbool.Either(a, b), movingbool.Either(b, a)}, {movingbool.Restrict(movingbool.Either(a, b), period.Intersect(a.Domain, b.Domain)), or(a, b)}, {movingbool.Restrict(a, a.Domain), a}, {movingbool.Extend(a, a.Domain, true), a}, {movingbool.Restrict(movingbool.Extend(a, b.Domain, false), a.Domain), a},
		} {
			if !movingbool.Equal(equal[0], equal[1]) {
				t.Errorf("the law %d for %s and %s", k, showBool(a), showBool(b))
			}
		}
		if movingbool.Always(a) == movingbool.Sometime(not(a)) {
			t.Errorf("Always and Sometime of %s", showBool(a))
		}
		outside := period.Minus(a.Domain, b.Domain)
		if joined, e := movingbool.Join(movingbool.Restrict(a, b.Domain), movingbool.Restrict(a, outside)); e != api.OK || !movingbool.Equal(joined, a) {
			t.Errorf("the parts of %s during %s and outside", showBool(a), show(b.Domain))
		}
	})
}

// Arguments stay as they are, and results have memory of their own.
func TestP12_7Arguments(t *testing.T) {
	a, b, during := moving("[0 1), (1 3], [4 4]", "[0 1), [4 4]"), moving("(1/2 2), [5 6]", "[5 6]"), list("[0 5]")
	before := showBool(a) + showBool(b) + show(during)
	made, _ := movingbool.Make(a.Domain, a.True)
	joined, _ := movingbool.Join(a, moving("[7 8]", ""))
	results := []api.Bool{
		made, joined, movingbool.Constant(true, during), movingbool.Constant(false, during), movingbool.Not(a), movingbool.Not(movingbool.Constant(false, during)), movingbool.Restrict(a, during), movingbool.Restrict(movingbool.Constant(true, during), during), movingbool.Extend(a, during, true), movingbool.Extend(a, during, false), movingbool.Extend(a, nil, true), movingbool.Extend(api.Bool{}, during, true), movingbool.Shift(a, api.Rat{}), {Domain: movingbool.False(a)},
	}
	for _, o := range operations() {
		results = append(results, o.f(a, b), o.f(b, a), o.f(a, a), o.f(a, api.Bool{}), o.f(movingbool.Constant(true, during), movingbool.Constant(true, during)))
	}
	for k, r := range results {
		shown := show(r.True)
		clear(r.Domain)
		clear(r.Domain[len(r.Domain):cap(r.Domain)])
		if show(r.True) != shown {
			t.Errorf("%d: both periods of a result share memory", k)
		}
		clear(r.True)
	}
	clear(movingbool.Changes(a))
	if after := showBool(a) + showBool(b) + show(during); after != before {
		t.Errorf("the arguments are %s, not %s", after, before)
	}
}
