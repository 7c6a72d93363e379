package movingbool_test

import (
	"slices"
	"testing"

	"viator/api"
	"viator/movingbool"
	"viator/notation"
	"viator/period"
	"viator/real"
)

// The strings of the tests are those of package notation.
var (
	rat   = notation.Rat
	re    = notation.Real
	reals = notation.Reals
	in    = notation.Interval
	list  = notation.Period
	show  = notation.ShowPeriod
	wrong = notation.Wrong
)

func moving(domain, true string) api.Bool {
	return api.Bool{Domain: list(domain), True: list(true)}
}

func showBool(b api.Bool) string { return show(b.Domain) + " | " + show(b.True) }

// expect complains unless a moving Boolean has some periods.
func expect(t *testing.T, what string, b api.Bool, domain, true string) {
	t.Helper()
	if show(b.Domain) != domain || show(b.True) != true {
		t.Errorf("%s = %s; want %s | %s", what, showBool(b), domain, true)
	}
}

// example is true during [2, 4), of [0, 10].
func example() api.Bool { return moving("[0 10]", "[2 4)") }

// scale is a model: instants, and the gaps between them, are numbered in order, and a set is the bits of those that a period consists of.
type scale []api.Real

func scales() []scale {
	return []scale{reals("-1 0+sqrt(2) 3/2"), reals("1-sqrt(3) 140/99 0+sqrt(2)")}
}

// bits returns how many instants and gaps there are, and instants returns an instant of each one.
func (s scale) bits() int { return 2*len(s) - 1 }

func (s scale) instants() []api.Real {
	var all []api.Real
	for k, t := range s {
		if k > 0 {
			between, _ := real.Between(s[k-1], t)
			all = append(all, real.FromRat(between))
		}
		all = append(all, t)
	}
	return all
}

// period returns the normal form of a set.
func (s scale) period(set int) []api.Interval {
	var l []api.Interval
	for bit := 0; set>>bit != 0; bit++ {
		if set>>bit&1 == 0 {
			continue
		}
		last := bit
		for set>>(last+1)&1 == 1 {
			last++
		}
		l = append(l, api.Interval{From: s[bit/2], To: s[(last+1)/2], OpenFrom: bit%2 == 1, OpenTo: last%2 == 1})
		bit = last
	}
	return l
}

// truth is a moving Boolean of a scale: the sets where it is defined and true.
type truth struct{ domain, true int }

func (s scale) bool(v truth) api.Bool {
	return api.Bool{Domain: s.period(v.domain), True: s.period(v.true)}
}

// at returns the value at a bit: 1 or 0, and -1 if there is none.
func (v truth) at(bit int) int {
	if v.domain>>bit&1 == 0 {
		return -1
	}
	return v.true >> bit & 1
}

// make returns what has some value at each bit: 1 or 0, and -1 for none.
func (s scale) make(value func(bit int) int) truth {
	var v truth
	for bit := range s.bits() {
		switch value(bit) {
		case 1:
			v.true |= 1 << bit
			fallthrough
		case 0:
			v.domain |= 1 << bit
		}
	}
	return v
}

// truths returns all moving Booleans of a scale.
func (s scale) truths() []truth {
	var all []truth
	for domain := range 1 << s.bits() {
		for sub := range domain + 1 {
			if sub&^domain == 0 {
				all = append(all, truth{domain, sub})
			}
		}
	}
	return all
}

// each calls a function with all moving Booleans of both scales, and pairs with pairs of them.
func each(f func(s scale, v truth, b api.Bool)) {
	for _, s := range scales() {
		for _, v := range s.truths() {
			f(s, v, s.bool(v))
		}
	}
}

func pairs(f func(s scale, v, w truth, a, b api.Bool)) {
	for n, s := range scales() {
		all := s.truths()
		for k := range len(all) * len(all) {
			if k%7 == 3*n { // of two scales, which have the same pairs
				v, w := all[k/len(all)], all[k%len(all)]
				f(s, v, w, s.bool(v), s.bool(w))
			}
		}
	}
}

func TestP12_1Check(t *testing.T) {
	for _, c := range []struct {
		domain, true string
		e            api.Errno
	}{
		{"", "", api.OK}, {"[0 10]", "[2 4)", api.OK}, {"[0 10]", "", api.OK}, {"[0 10]", "[0 10]", api.OK}, {"[0 0], (1 0+sqrt(2)]", "[0 0], [0+sqrt(2) 0+sqrt(2)]", api.OK}, {"(0 1), (1 2)", "(1/2 1), (1 2)", api.OK},
		{"[2 1]", "", api.ErrEmpty}, {"[0 3], [2 4]", "", api.ErrOverlap}, {"[0 3), [3 4]", "", api.ErrForm}, {"[0 10]", "(2 2]", api.ErrEmpty}, {"[0 10]", "[4 5], [2 3]", api.ErrOverlap}, {"[0 10]", "[2 4), [4 5]", api.ErrForm},
		{"[2 4)", "[0 10]", api.ErrRange}, {"", "[0 0]", api.ErrRange}, {"(0 1]", "[0 1]", api.ErrRange}, {"[0 1)", "[0 1]", api.ErrRange}, {"(0 1), (1 2)", "(1/2 3/2)", api.ErrRange}, {"[0 140/99]", "[0 0+sqrt(2))", api.ErrRange}, {"[0 1], [3 4]", "[1 3]", api.ErrRange}, {"[0 1]", "[0 0], [2 2]", api.ErrRange},
		{"[2 1]", "[0 3], [2 4]", api.ErrEmpty}, {"[0 3], [2 4]", "[2 1]", api.ErrOverlap}, {"[0 3), [3 4]", "[2 1]", api.ErrForm}, {"[0 1]", "[7 6]", api.ErrEmpty}, {"[0 1]", "[0 2], [1 3]", api.ErrOverlap}, {"[0 1]", "[5 6), [6 7]", api.ErrForm},
	} {
		if e := movingbool.Check(moving(c.domain, c.true)); e != c.e {
			t.Errorf("Check(%s | %s) = %d; want %d", c.domain, c.true, e, c.e)
		}
	}
	for k, x := range wrong() {
		bad := []api.Interval{{From: x, To: x}}
		for _, b := range []api.Bool{{Domain: bad}, {Domain: bad, True: bad}, {True: bad}, {Domain: list("[-9 9]"), True: bad}, {Domain: bad, True: list("[2 1]")}} {
			if e := movingbool.Check(b); e != api.ErrForm {
				t.Errorf("%d: Check(%v) = %d", k, b, e)
			}
		}
		if e := movingbool.Check(api.Bool{Domain: list("[2 1]"), True: bad}); e != api.ErrEmpty {
			t.Errorf("%d: Check of an empty interval first = %d", k, e)
		}
	}
	for _, s := range scales() {
		for domain := range 1 << s.bits() {
			for sub := range 1 << s.bits() {
				want := api.OK
				if sub&^domain != 0 {
					want = api.ErrRange
				}
				if e := movingbool.Check(s.bool(truth{domain, sub})); e != want {
					t.Errorf("Check(%s) = %d; want %d", showBool(s.bool(truth{domain, sub})), e, want)
				}
			}
		}
	}
}

func TestP12_1Make(t *testing.T) {
	for _, c := range [][4]string{
		{"", "", "", ""}, {"[3 10], [0 4]", "[2 4), [9 12]", "[0 10]", "[2 4), [9 10]"}, {"[0 1), [1 2], [1 1]", "[1 1], [0 1/2]", "[0 2]", "[0 1/2], [1 1]"}, {"", "[0 1]", "", ""}, {"(0 1), (1 2)", "[0 2]", "(0 1), (1 2)", "(0 1), (1 2)"}, {"[5 6], [0 0]", "", "[0 0], [5 6]", ""},
		{"(0 0+sqrt(2)], [0+sqrt(2) 2)", "(140/99 7], [-3 1/2]", "(0 2)", "(0 1/2], (140/99 2)"}, {"[0 4]", "[3 9], [1 2], [2 3), [-1 0]", "[0 4]", "[0 0], [1 4]"},
	} {
		b, e := movingbool.Make(list(c[0]), list(c[1]))
		if e != api.OK || movingbool.Check(b) != api.OK {
			t.Errorf("Make(%s; %s): %d", c[0], c[1], e)
		}
		expect(t, "Make of "+c[0]+" and "+c[1], b, c[2], c[3])
	}
	for _, s := range scales() {
		for domain := range 1 << s.bits() {
			for sub := range 1 << s.bits() {
				want := s.bool(truth{domain, sub & domain})
				if b, e := movingbool.Make(s.period(domain), s.period(sub)); e != api.OK || !movingbool.Equal(b, want) {
					t.Errorf("Make(%s) = %s, %d", showBool(s.bool(truth{domain, sub})), showBool(b), e)
				}
			}
		}
	}
}

func TestP12_1MakeErrors(t *testing.T) {
	form := api.Interval{From: wrong()[0], To: re("1")}
	for k, c := range []struct {
		domain, true []api.Interval
		e            api.Errno
	}{
		{nil, list("[2 1]"), api.ErrEmpty}, {list("[0 1], (1 1]"), nil, api.ErrEmpty}, {list("[0 1], (1 1)"), []api.Interval{form}, api.ErrEmpty}, {[]api.Interval{form}, list("[2 1]"), api.ErrForm}, {list("[0 1]"), []api.Interval{in("[5 6]"), form, in("[2 1]")}, api.ErrForm}, {list("[0 1]"), []api.Interval{in("[5 6]"), in("[2 1]"), form}, api.ErrEmpty}, {append(list("[0 1]"), in("[2 1]"), form), nil, api.ErrEmpty}, {append(list("[0 1]"), form, in("[2 1]")), nil, api.ErrForm},
	} {
		if b, e := movingbool.Make(c.domain, c.true); e != c.e || b.Domain != nil || b.True != nil {
			t.Errorf("%d: Make = %v, %d", k, b, e)
		}
	}
}

func TestP12_1Constant(t *testing.T) {
	const p = "[0 1), (1 0+sqrt(3)], [5 5]"
	expect(t, "Constant", movingbool.Constant(true, list(p)), p, p)
	expect(t, "Constant", movingbool.Constant(false, list(p)), p, "")
	expect(t, "Constant", movingbool.Constant(true, nil), "", "")
	expect(t, "Constant", movingbool.Constant(false, nil), "", "")
}

func TestP12_2(t *testing.T) {
	b := example()
	for s, want := range map[string][2]bool{"2": {true, true}, "4": {false, true}, "11": {false, false}, "0": {false, true}, "10": {false, true}, "0+sqrt(5)": {true, true}, "0+sqrt(3)": {false, true}, "0+sqrt(101)": {false, false}, "-1": {false, false}, "399/100": {true, true}} {
		if value, defined := movingbool.At(b, re(s)); value != want[0] || defined != want[1] {
			t.Errorf("At(%s) = %v, %v", s, value, defined)
		}
	}
	if got := show(movingbool.False(b)); got != "[0 2), [4 10]" {
		t.Errorf("False = %s", got)
	}
	each(func(s scale, v truth, b api.Bool) {
		for bit, at := range s.instants() {
			value, defined := movingbool.At(b, at)
			if value != (v.at(bit) == 1) || defined != (v.at(bit) >= 0) {
				t.Errorf("At(%s; %s) = %v, %v", showBool(b), real.Print(at), value, defined)
			}
		}
		for _, outside := range reals("-10-sqrt(2) 10+sqrt(2)") {
			if value, defined := movingbool.At(b, outside); value || defined {
				t.Errorf("At(%s; %s) = %v, %v", showBool(b), real.Print(outside), value, defined)
			}
		}
		if got := movingbool.False(b); !slices.Equal(got, s.period(v.domain&^v.true)) {
			t.Errorf("False(%s) = %s", showBool(b), show(got))
		}
	})
}

// first returns the least bit of a set and last the greatest, and what is there.
func (s scale) first(set int) (t api.Real, itself bool) {
	bit := 0
	for set>>bit&1 == 0 {
		bit++
	}
	return s[bit/2], bit%2 == 0
}

func (s scale) last(set int) (t api.Real, itself bool) {
	bit := s.bits()
	for set>>bit == 0 {
		bit--
	}
	return s[(bit+1)/2], bit%2 == 0
}

func TestP12_5Bounds(t *testing.T) {
	each(func(s scale, v truth, b api.Bool) {
		from, atFrom, e := movingbool.First(b)
		to, atTo, f := movingbool.Last(b)
		if v.true == 0 {
			if e != api.ErrEmpty || f != api.ErrEmpty || atFrom || atTo || from != (api.Real{}) || to != (api.Real{}) {
				t.Errorf("First or Last of %s: %d, %d", showBool(b), e, f)
			}
			return
		}
		wantFrom, wantAtFrom := s.first(v.true)
		wantTo, wantAtTo := s.last(v.true)
		if e != api.OK || from != wantFrom || atFrom != wantAtFrom || f != api.OK || to != wantTo || atTo != wantAtTo {
			t.Errorf("First and Last of %s are %s, %v, %d and %s, %v, %d", showBool(b), real.Print(from), atFrom, e, real.Print(to), atTo, f)
		}
	})
}

func TestP12_5Values(t *testing.T) {
	each(func(s scale, v truth, b api.Bool) {
		if movingbool.Sometime(b) != (v.true != 0) || movingbool.Always(b) != (v.true == v.domain) {
			t.Errorf("Sometime or Always of %s", showBool(b))
		}
	})
	if movingbool.Sometime(api.Bool{}) || !movingbool.Always(api.Bool{}) {
		t.Error("Sometime or Always of nothing")
	}
}

func TestP12_5Lasting(t *testing.T) {
	const domain = "[-1 20]"
	for _, c := range []struct {
		true, length string
		want         bool
	}{
		{"[2 4)", "2", true}, {"[2 4)", "3", false}, {"[2 4)", "2000001/1000000", false}, {"(2 4)", "2", true}, {"", "0", false}, {"", "-1", false}, {"", "1", false}, {"[3 3]", "0", true}, {"[3 3]", "-5/2", true}, {"[3 3]", "1/1000000", false}, {"[0 1), (1 2]", "2", false}, {"[0 1), (1 2]", "1", true},
		{"[0 1/2], [1 3]", "2", true}, {"[0 0+sqrt(2)]", "7/5", true}, {"[0 0+sqrt(2)]", "3/2", false}, {"[0+sqrt(2) 0+sqrt(3)]", "1/4", true}, {"[0+sqrt(2) 0+sqrt(3)]", "1/3", false}, {"[0+sqrt(2) 1+sqrt(2))", "1", true}, {"[0+sqrt(2) 1+sqrt(2))", "1000001/1000000", false}, {"[0 1], [2 3], [4 11/2], [7 8]", "3/2", true}, {"[0 1], [2 3], [4 11/2], [7 8]", "2", false},
	} {
		if got := movingbool.Lasting(moving(domain, c.true), rat(c.length)); got != c.want {
			t.Errorf("Lasting(%s; %s) is %v", c.true, c.length, got)
		}
	}
	each(func(s scale, v truth, b api.Bool) {
		if movingbool.Lasting(b, rat("0")) != (v.true != 0) || movingbool.Lasting(b, rat("-7")) != (v.true != 0) {
			t.Errorf("Lasting(%s) for no length", showBool(b))
		}
	})
}

func TestP12_6Changes(t *testing.T) {
	for _, c := range [][3]string{
		{"", "", ""}, {"[0 10]", "[2 4)", "0 2 4 10"}, {"[0 10]", "[0 10]", "0 10"}, {"[0 10]", "", "0 10"}, {"[0 1), (1 2]", "[0 1), (1 2]", "0 1 2"}, {"[0 0], [5 6]", "[0 0], [5 5]", "0 5 6"}, {"[0 9]", "(1 0+sqrt(2)), [0+sqrt(3) 0+sqrt(5)]", "0 1 0+sqrt(2) 0+sqrt(3) 0+sqrt(5) 9"}, {"[0 9]", "[1 1], (2 3), (3 4)", "0 1 2 3 4 9"}, {"[0 1], [3 4]", "[1 1], [3 7/2]", "0 1 3 7/2 4"},
	} {
		if got := movingbool.Changes(moving(c[0], c[1])); !slices.Equal(got, reals(c[2])) {
			t.Errorf("Changes(%s | %s) = %v; want %s", c[0], c[1], got, c[2])
		}
	}
	// An instant is one at which the value of its bit is not that of both neighbours.
	each(func(s scale, v truth, b api.Bool) {
		value := func(bit int) int {
			if bit < 0 || bit >= s.bits() {
				return -1
			}
			return v.at(bit)
		}
		var want []api.Real
		for k, at := range s {
			if now := value(2 * k); value(2*k-1) != now || value(2*k+1) != now {
				want = append(want, at)
			}
		}
		if got := movingbool.Changes(b); !slices.Equal(got, want) {
			t.Errorf("Changes(%s) = %v; want %v", showBool(b), got, want)
		}
	})
}

func TestP12_6Equal(t *testing.T) {
	pairs(func(s scale, v, w truth, a, b api.Bool) {
		if movingbool.Equal(a, b) != (v == w) {
			t.Errorf("Equal(%s; %s) is not %v", showBool(a), showBool(b), v == w)
		}
	})
	each(func(s scale, v truth, b api.Bool) {
		if !movingbool.Equal(b, s.bool(v)) {
			t.Errorf("Equal(%s) and itself is false", showBool(b))
		}
	})
	if !movingbool.Equal(api.Bool{}, api.Bool{Domain: []api.Interval{}, True: []api.Interval{}}) || movingbool.Equal(example(), api.Bool{}) || movingbool.Equal(example(), movingbool.Not(example())) {
		t.Error("Equal of other lists")
	}
}

// Nothing is specified for values that are not valid, but no function may panic or go on for ever.
func TestP1NotValid(t *testing.T) {
	ends := append(wrong(), reals("0 1 0+sqrt(2)")...)
	for k, x := range ends {
		for n, y := range ends {
			i := api.Interval{From: x, To: y, OpenFrom: k > n, OpenTo: k%2 == 0}
			a := api.Bool{Domain: []api.Interval{i, {From: y, To: x}}, True: []api.Interval{{From: x, To: x}, i, i}}
			b := api.Bool{Domain: period.Instant(y), True: []api.Interval{i}}
			movingbool.Check(a)
			movingbool.Make(a.Domain, b.True)
			movingbool.At(a, y)
			movingbool.False(a)
			for _, f := range operations() {
				f.f(a, b)
				f.f(b, a)
			}
			movingbool.Not(a)
			movingbool.Restrict(a, b.True)
			movingbool.Extend(a, b.True, k > n)
			movingbool.Join(a, b)
			movingbool.Shift(a, y.P)
			movingbool.First(a)
			movingbool.Last(b)
			movingbool.Sometime(a)
			movingbool.Always(a)
			movingbool.Lasting(a, x.R)
			movingbool.Changes(a)
			movingbool.Equal(a, b)
			movingbool.Constant(true, a.Domain)
		}
	}
}
