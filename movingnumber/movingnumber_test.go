package movingnumber_test

import (
	"slices"
	"testing"

	"viator/api"
	"viator/movingbool"
	"viator/movingnumber"
	"viator/period"
	"viator/rational"
	"viator/real"
)

func TestP14_1Check(t *testing.T) {
	for s, want := range map[string]api.Errno{
		"[0 1] 0,1; (1 3] 2,-1": api.OK, "[1 1] 0,1": api.ErrForm, "[1 1] 1": api.OK, "[0 1) 0,1; [1 3] 2,-1": api.ErrForm, "[0 1] 0,1; [1 3] 2,-1": api.ErrOrder, "[2 1] 5": api.ErrEmpty, "(1 1] 5": api.ErrEmpty, "[0 1] 3; (1 2] 3": api.ErrForm, "[0+sqrt(2) 0+sqrt(2)] 0,0,1": api.ErrForm, "[3 4] 1; [0 1] 1": api.ErrOrder,
	} {
		if e := movingnumber.Check(units(s)); e != want {
			t.Errorf("Check(%s) = %d; want %d", s, e, want)
		}
	}
	each(func(l []api.NumberUnit) {
		if e := movingnumber.Check(l); e != api.OK {
			t.Errorf("Check(%s) = %d", showUnits(l), e)
		}
	})
	bad := wrong()[2]
	for k, u := range []api.NumberUnit{{In: in("[0 1]"), F: api.Quad{C0: bad.P}}, {In: in("[0 1]"), F: api.Quad{C1: bad.P}}, {In: in("[0 1]"), F: api.Quad{C2: bad.P}}, {In: api.Interval{From: bad, To: re("3")}}, {In: api.Interval{From: re("-3"), To: bad}}} {
		if e := movingnumber.Check([]api.NumberUnit{u}); e != api.ErrForm {
			t.Errorf("%d: Check = %d", k, e)
		}
	}
	if e := movingnumber.Check(make([]api.NumberUnit, api.MaxUnits+1)); e != api.ErrLimit {
		t.Errorf("Check of many = %d", e)
	}
}

func TestP14_1Normal(t *testing.T) {
	for s, want := range map[string]string{
		"": "", "(1 2] 0,1; [0 1] 0,1": "[0 2] 0,1", "[1 3] 2,-1; [0 1) 0,1": "[0 1] 0,1; (1 3] 2,-1", "[0+sqrt(2) 0+sqrt(2)] 0,0,1": "[0+sqrt(2) 0+sqrt(2)] 2", "[0 1) 0,1; (1 2] 0,1; [1 1] 1": "[0 2] 0,1", "[0 1) 0,1; (1 2] 0,1; [1 1] 5,1": "[0 1) 0,1; [1 1] 6; (1 2] 0,1",
	} {
		if l, e := movingnumber.Normal(units(s)); e != api.OK || showUnits(l) != want {
			t.Errorf("Normal(%s) = %s, %d; want %s", s, showUnits(l), e, want)
		}
	}
	for _, s := range []string{"[0 1] 0,1; [1 2] 0,1", "[0 9] 1; [3 3] 1", "(0 1) 1; (0 1) 1"} {
		if l, e := movingnumber.Normal(units(s)); e != api.ErrOverlap || len(l) != 0 {
			t.Errorf("Normal(%s) = %s, %d", s, showUnits(l), e)
		}
	}
	each(func(l []api.NumberUnit) {
		turned := slices.Clone(l)
		slices.Reverse(turned)
		if normal, e := movingnumber.Normal(turned); e != api.OK || !movingnumber.Same(normal, l) {
			t.Errorf("Normal(%s) = %s, %d", showUnits(turned), showUnits(normal), e)
		}
	})
}

func TestP14_1Constant(t *testing.T) {
	for _, c := range [][3]string{{"5/2", "[0 1), (1 0+sqrt(2)], [3 3]", "[0 1) 5/2; (1 0+sqrt(2)] 5/2; [3 3] 5/2"}, {"0", "[0 1]", "[0 1] 0"}, {"7", "", ""}, {"-3", "[0+sqrt(2) 0+sqrt(2)]", "[0+sqrt(2) 0+sqrt(2)] -3"}} {
		if l := movingnumber.Constant(rat(c[0]), list(c[1])); showUnits(l) != c[2] || movingnumber.Check(l) != api.OK {
			t.Errorf("Constant(%s; %s) = %s; want %s", c[0], c[1], showUnits(l), c[2])
		}
	}
}

func TestP14_1Same(t *testing.T) {
	pairs(func(a, b []api.NumberUnit) {
		if movingnumber.Same(a, b) != (showUnits(a) == showUnits(b)) {
			t.Errorf("Same(%s; %s)", showUnits(a), showUnits(b))
		}
	})
	for _, s := range []string{"(0 1] 0,1", "[0 1) 0,1", "[0 2] 0,1", "[1/2 1] 0,1", "[0 1] 1,1", "[0 1] 0,2", "[0 1] 0,1,1", "[0 1] 0,1; [2 2] 2"} {
		if movingnumber.Same(units("[0 1] 0,1"), units(s)) {
			t.Errorf("Same of [0 1] 0,1 and %s", s)
		}
	}
	if !movingnumber.Same(nil, []api.NumberUnit{}) {
		t.Error("nil and empty lists are not the same")
	}
}

func TestP14_2(t *testing.T) {
	each(func(l []api.NumberUnit) {
		if !is(l, instants(nil, l), func(x api.Real) (number, bool) { return at(l, x) }) {
			t.Errorf("At(%s)", showUnits(l))
		}
		var intervals []api.Interval
		for _, u := range l {
			intervals = append(intervals, u.In)
		}
		if got := movingnumber.Domain(l); !slices.Equal(got, period.Normal(intervals)) {
			t.Errorf("Domain(%s) = %s", showUnits(l), show(got))
		}
	})
	for _, c := range [][3]string{{"[0 4] -2,0,1", "0+sqrt(2)", "0"}, {"[0 4] -2,0,1", "1+sqrt(3)", "2+sqrt(12)"}, {"[0 4] -2,0,1", "3/2", "1/4"}, {"[0 2) 0,1", "2", ""}, {"[0 2) 0,1", "-1", ""}} {
		value, defined := movingnumber.At(units(c[0]), re(c[1]))
		if defined != (c[2] != "") || defined && real.Print(value) != c[2] || !defined && value != (api.Real{}) {
			t.Errorf("At(%s; %s) = %s, %v; want %s", c[0], c[1], real.Print(value), defined, c[2])
		}
	}
}

func TestP14_2Limits(t *testing.T) {
	for _, c := range []struct {
		l, first, from string
		reached        bool
		last, to       string
		reachedTo      bool
	}{
		{"[0 2) 0,1", "0", "0", true, "2", "2", false}, {"(0+sqrt(2) 2] 0,0,1; (3 1+sqrt(5)] 1,-2", "2", "0+sqrt(2)", false, "-1-sqrt(20)", "1+sqrt(5)", true}, {"[1 1] 5", "5", "1", true, "5", "1", true}, {"(1 2) 0,1; [2 2] 7; (2 3) 1", "1", "1", false, "1", "3", false},
	} {
		first, e := movingnumber.Initial(units(c.l))
		if want := (movingnumber.Extreme{Value: re(c.first), At: re(c.from), Reached: c.reached}); e != api.OK || first != want {
			t.Errorf("Initial(%s) = %v, %d", c.l, first, e)
		}
		last, e := movingnumber.Final(units(c.l))
		if want := (movingnumber.Extreme{Value: re(c.last), At: re(c.to), Reached: c.reachedTo}); e != api.OK || last != want {
			t.Errorf("Final(%s) = %v, %d", c.l, last, e)
		}
	}
	for k, f := range extremes() {
		if x, e := f(nil); e != api.ErrEmpty || x != (movingnumber.Extreme{}) {
			t.Errorf("%d: %v, %d of nothing", k, x, e)
		}
	}
}

// extremes returns the functions whose results are extremes: for the beginning, the end, the least and the greatest value.
func extremes() []func(l []api.NumberUnit) (movingnumber.Extreme, api.Errno) {
	return []func(l []api.NumberUnit) (movingnumber.Extreme, api.Errno){movingnumber.Initial, movingnumber.Final, movingnumber.Least, movingnumber.Greatest}
}

func TestP14_6Examples(t *testing.T) {
	for _, c := range []struct {
		l, least, at string
		reached      bool
		greatest, to string
		reachedTo    bool
	}{
		{"[0 4] -2,0,1", "-2", "0", true, "14", "4", true}, {"[0 2) 0,1", "0", "0", true, "2", "2", false}, {"(0 2) 5", "5", "0", true, "5", "0", true}, {"[1 1] 5", "5", "1", true, "5", "1", true},
		// The turn, which belongs to the unit or not.
		{"[0 3] 0,-2,1", "-1", "1", true, "3", "3", true}, {"[0 1) 0,-2,1; (1 3] 0,-2,1", "-1", "1", false, "3", "3", true}, {"[0 1) 0,-2,1; [1 1] 7; (1 3] 0,-2,1", "-1", "1", false, "7", "1", true}, {"(0 2) 0,2,-1", "0", "0", false, "1", "1", true},
		// The earliest of several instants, and a value that another instant reaches.
		{"[0 2) 0,1; [3 4] 5,-1", "0", "0", true, "2", "2", true}, {"[0 2) 0,1; [2 2] 0; (2 3] 4,-1", "0", "0", true, "2", "2", false}, {"[0 1) 0,1; [2 3) 2,-1/2; [4 4] 1", "0", "0", true, "1", "1", true}, {"[0 1] 0,1; (1 2) 1; [5 6] 1", "0", "0", true, "1", "1", true}, {"(0 1) 0,1; (2 3] 2,-1", "-1", "3", true, "1", "1", false}, {"(0 1) 0,1; (1 2) 0,1; [7 7] 0", "0", "0", true, "2", "2", false}, {"[-1 1] 0,0,1", "0", "0", true, "1", "-1", true}, {"(-1 1] 0,0,1", "0", "0", true, "1", "-1", true}, {"(-1 1) 0,0,1", "0", "0", true, "1", "-1", false},
		// Ends that are not rational.
		{"(1-sqrt(3) 1+sqrt(2)] 0,2", "2-sqrt(12)", "1-sqrt(3)", false, "2+sqrt(8)", "1+sqrt(2)", true}, {"[0 0+sqrt(2)) 0,0,1; [3 4] 2", "0", "0", true, "2", "0+sqrt(2)", true},
	} {
		least, e := movingnumber.Least(units(c.l))
		if want := (movingnumber.Extreme{Value: re(c.least), At: re(c.at), Reached: c.reached}); e != api.OK || least != want {
			t.Errorf("Least(%s) = %v, %d; want %v", c.l, least, e, want)
		}
		greatest, e := movingnumber.Greatest(units(c.l))
		if want := (movingnumber.Extreme{Value: re(c.greatest), At: re(c.to), Reached: c.reachedTo}); e != api.OK || greatest != want {
			t.Errorf("Greatest(%s) = %v, %d; want %v", c.l, greatest, e, want)
		}
	}
}

// The extreme values are the best ones of all values of functions at the ends and turns of their units, and some value, or a limit of values, is equal.
func TestP14_6(t *testing.T) {
	each(func(l []api.NumberUnit) {
		if len(l) == 0 {
			return
		}
		for k, f := range []func(l []api.NumberUnit) (movingnumber.Extreme, api.Errno){movingnumber.Least, movingnumber.Greatest} {
			got, e := f(l)
			want, better := movingnumber.Extreme{}, 2*k-1
			for n, x := range candidates(l) {
				order := real.Compare(x.Value, want.Value)
				switch {
				case n == 0 || order == better:
					want = x
				case order == 0:
					want.At, want.Reached = real.Min(want.At, x.At), want.Reached || x.Reached
				}
			}
			if e != api.OK || got != want {
				t.Errorf("%s has the extreme value %v, %d; want %v", showUnits(l), got, e, want)
			}
		}
	})
}

// candidates returns the values of each function at the ends and between them, and where it turns.
func candidates(l []api.NumberUnit) []movingnumber.Extreme {
	var all []movingnumber.Extreme
	for _, u := range l {
		at := []api.Real{u.In.From, u.In.To}
		if r, e := real.Between(u.In.From, u.In.To); e == api.OK {
			at = append(at, real.FromRat(r))
		}
		if turn, e := rational.Div(u.F.C1, rational.Mul(rat("-2"), u.F.C2)); e == api.OK {
			at = append(at, real.FromRat(turn))
		}
		for _, x := range at {
			if real.Compare(u.In.From, x) <= 0 && real.Compare(x, u.In.To) <= 0 {
				all = append(all, movingnumber.Extreme{Value: valueOf(u.F, x).Real(), At: x, Reached: contains(u.In, x)})
			}
		}
	}
	return all
}

func TestP14_7(t *testing.T) {
	for _, c := range [][3]string{
		{"[0 2] 0,1", "[1 1], [2 9]", "[1 1] 1; [2 2] 2"}, {"[0 2] 0,0,1", "[-1 0+sqrt(2))", "[0 0+sqrt(2)) 0,0,1"}, {"[0 2] 0,0,1", "[0+sqrt(2) 0+sqrt(2)]", "[0+sqrt(2) 0+sqrt(2)] 2"}, {"[0 2] 0,0,1", "", ""}, {"", "[0 1]", ""}, {"[0 1] 0,1; (1 3] 2,-1", "[1 3]", "[1 3] 2,-1"},
	} {
		if l := movingnumber.Restrict(units(c[0]), list(c[1])); showUnits(l) != c[2] {
			t.Errorf("Restrict(%s; %s) = %s; want %s", c[0], c[1], showUnits(l), c[2])
		}
	}
	for _, c := range [][3]string{{"[0 2) 0,1", "3", "[3 5) -3,1"}, {"[0 0+sqrt(2)] 1,2,3; [5 5] 5", "-1/2", "[-1/2 -1/2+sqrt(2)] 11/4,5,3; [9/2 9/2] 5"}, {"", "3", ""}, {"[1+sqrt(3) 1+sqrt(3)] 2,2", "1", "[2+sqrt(3) 2+sqrt(3)] 0,2"}} {
		if l := movingnumber.Shift(units(c[0]), rat(c[1])); showUnits(l) != c[2] {
			t.Errorf("Shift(%s; %s) = %s; want %s", c[0], c[1], showUnits(l), c[2])
		}
	}
	pairs(func(a, b []api.NumberUnit) {
		during := movingnumber.Domain(b)
		l := movingnumber.Restrict(a, during)
		if !is(l, instants(nil, a, b), func(x api.Real) (number, bool) {
			value, defined := at(a, x)
			if _, ok := at(b, x); !defined || !ok {
				return number{}, false
			}
			return value, true
		}) {
			t.Errorf("Restrict(%s; %s) = %s", showUnits(a), show(during), showUnits(l))
		}
	})
}

// Shifting there and back, and restricting to the domain, give the same list.
func TestP14_8Same(t *testing.T) {
	each(func(l []api.NumberUnit) {
		if got := movingnumber.Restrict(l, movingnumber.Domain(l)); !movingnumber.Same(got, l) {
			t.Errorf("Restrict(%s) to its domain = %s", showUnits(l), showUnits(got))
		}
		for _, s := range []string{"0", "5", "-1/3", "100000000000000000000/7"} {
			by, back := rat(s), rational.Neg(rat(s))
			later := movingnumber.Shift(l, by)
			if !is(later, instants(nil, later), func(x api.Real) (number, bool) {
				value, defined := at(l, real.Shift(x, back))
				return value, defined
			}) {
				t.Errorf("Shift(%s; %s) = %s", showUnits(l), s, showUnits(later))
			}
			if got := movingnumber.Shift(later, back); !movingnumber.Same(got, l) {
				t.Errorf("Shift(%s; %s) and back = %s", showUnits(l), s, showUnits(got))
			}
		}
	})
}

// All values lie between Least and Greatest.
func TestP14_8Extremes(t *testing.T) {
	each(func(l []api.NumberUnit) {
		if len(l) == 0 {
			return
		}
		least, _ := movingnumber.Least(l)
		greatest, _ := movingnumber.Greatest(l)
		for _, x := range instants(nil, l) {
			if value, defined := movingnumber.At(l, x); defined && (real.Compare(least.Value, value) > 0 || real.Compare(value, greatest.Value) > 0) {
				t.Errorf("%s is %s at %s", showUnits(l), real.Print(value), real.Print(x))
			}
		}
	})
}

// Arguments stay as they are, and results have memory of their own.
func TestP14_8Arguments(t *testing.T) {
	a, b, during := units("[0 1) 0,1; [1 1] 5; (1 2] 0,1"), units("[0 1] 2,1; (1 3] 1"), list("[0 1], [2 3]")
	before := showUnits(a) + showUnits(b) + show(during)
	normal, _ := movingnumber.Normal(a)
	product, _ := movingnumber.Product(a, b)
	for _, l := range [][]api.NumberUnit{normal, product, movingnumber.Constant(rat("1"), during), movingnumber.Add(a, b), movingnumber.Sub(a, b), movingnumber.Scale(a, rat("1")), movingnumber.Derivative(b), movingnumber.Restrict(a, during), movingnumber.Restrict(b, list("[-9 9]")), movingnumber.Shift(a, rat("0"))} {
		clear(l[:cap(l)])
	}
	for _, f := range []func(a, b []api.NumberUnit) api.Bool{movingnumber.Less, movingnumber.AtMost, movingnumber.Equal} {
		for _, result := range []api.Bool{f(a, b), f(b, a), f(a, a), f(b, b)} {
			shown := show(result.True)
			clear(result.Domain[:cap(result.Domain)])
			if show(result.True) != shown {
				t.Error("both periods of a result share memory")
			}
			clear(result.True)
		}
	}
	clear(movingnumber.Domain(a))
	clear(movingnumber.When(a, rat("0"), rat("5")))
	if after := showUnits(a) + showUnits(b) + show(during); after != before {
		t.Errorf("the arguments are %s, not %s", after, before)
	}
}

// Nothing is specified for lists that are not valid, but no function may panic or go on for ever.
func TestP1NotValid(t *testing.T) {
	ends := append(wrong(), reals("0 1 0+sqrt(2)")...)
	for k, x := range ends {
		for n, y := range ends {
			i := api.Interval{From: x, To: y, OpenFrom: k > n, OpenTo: k%2 == 0}
			f := api.Quad{C0: x.P, C1: y.R, C2: y.P}
			a := []api.NumberUnit{{In: i, F: f}, {In: api.Interval{From: y, To: x}}, {In: i}}
			b := []api.NumberUnit{{In: api.Interval{From: y, To: y}, F: f}, {In: i, F: f}}
			movingnumber.Check(a)
			movingnumber.Normal(a)
			movingnumber.Constant(x.P, []api.Interval{i, i})
			movingnumber.At(a, y)
			for _, f := range extremes() {
				f(a)
				f(b)
			}
			movingnumber.Domain(a)
			for _, f := range []func(a, b []api.NumberUnit) []api.NumberUnit{movingnumber.Add, movingnumber.Sub} {
				f(a, b)
			}
			movingnumber.Scale(a, y.P)
			movingnumber.Product(a, b)
			movingnumber.Derivative(a)
			for _, f := range []func(a, b []api.NumberUnit) api.Bool{movingnumber.Less, movingnumber.AtMost, movingnumber.Equal} {
				movingbool.Check(f(a, b))
			}
			movingnumber.When(a, x.P, y.R)
			movingnumber.Restrict(a, []api.Interval{i, {From: x, To: x}, i})
			movingnumber.Shift(a, y.P)
			movingnumber.Same(a, b)
		}
	}
}
