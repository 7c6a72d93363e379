package movingnumber_test

import (
	"testing"

	"viator/api"
	"viator/movingbool"
	"viator/movingnumber"
	"viator/period"
	"viator/rational"
	"viator/real"
)

// both returns what an operation makes of the values of two moving numbers, where both are defined.
func both(a, b []api.NumberUnit, operation func(v, w number) number) func(t api.Real) (number, bool) {
	return func(t api.Real) (number, bool) {
		v, ok := at(a, t)
		w, defined := at(b, t)
		if !ok || !defined {
			return number{}, false
		}
		return operation(v, w), true
	}
}

func TestP14_3Sums(t *testing.T) {
	for _, c := range [][4]string{
		{"[0 2] 0,1", "[1 3] 1,-1", "[1 2] 1", "[1 2] -1,2"}, {"[0 2] 0,0,1", "[0+sqrt(2) 0+sqrt(2)] 0,1", "[0+sqrt(2) 0+sqrt(2)] 2,1", "[0+sqrt(2) 0+sqrt(2)] 2,-1"}, {"[0 1) 1", "[1 2] 1", "", ""}, {"", "[1 2] 1", "", ""}, {"[0 2] 1", "[0 1) 3; [1 1] 5; (1 2) 3", "[0 1) 4; [1 1] 6; (1 2) 4", "[0 1) -2; [1 1] -4; (1 2) -2"}, {"[0 1] 0,1; (1 2] 2,-1", "[0 1] 2,-1; (1 2] 0,1", "[0 2] 2", "[0 1] -2,2; (1 2] 2,-2"},
	} {
		a, b := units(c[0]), units(c[1])
		if sum := movingnumber.Add(a, b); showUnits(sum) != c[2] || !movingnumber.Same(movingnumber.Add(b, a), sum) {
			t.Errorf("Add(%s; %s) = %s; want %s", c[0], c[1], showUnits(sum), c[2])
		}
		if difference := movingnumber.Sub(a, b); showUnits(difference) != c[3] {
			t.Errorf("Sub(%s; %s) = %s; want %s", c[0], c[1], showUnits(difference), c[3])
		}
	}
	pairs(func(a, b []api.NumberUnit) {
		when := instants(nil, a, b)
		if sum := movingnumber.Add(a, b); !is(sum, when, both(a, b, number.Plus)) {
			t.Errorf("Add(%s; %s) = %s", showUnits(a), showUnits(b), showUnits(sum))
		}
		if difference := movingnumber.Sub(a, b); !is(difference, when, both(a, b, number.Minus)) {
			t.Errorf("Sub(%s; %s) = %s", showUnits(a), showUnits(b), showUnits(difference))
		}
	})
}

func TestP14_3Scale(t *testing.T) {
	for _, c := range [][3]string{{"[0 2] 0,1", "0", "[0 2] 0"}, {"[0 1] 0,1; (1 2] 3", "0", "[0 2] 0"}, {"[0 1) 1; [1 1] 2; (1 2] 1/3,2,-1", "-3/2", "[0 1) -3/2; [1 1] -3; (1 2] -1/2,-3,3/2"}, {"", "5", ""}, {"[1+sqrt(3) 1+sqrt(3)] 2,2", "1/2", "[1+sqrt(3) 1+sqrt(3)] 1,1"}} {
		if l := movingnumber.Scale(units(c[0]), rat(c[1])); showUnits(l) != c[2] {
			t.Errorf("Scale(%s; %s) = %s; want %s", c[0], c[1], showUnits(l), c[2])
		}
	}
	each(func(l []api.NumberUnit) {
		for _, by := range []string{"0", "1", "-1", "2/3", "-7"} {
			if got := movingnumber.Scale(l, rat(by)); !is(got, instants(nil, l), func(x api.Real) (number, bool) {
				value, defined := at(l, x)
				return value.Scale(rat(by)), defined
			}) {
				t.Errorf("Scale(%s; %s) = %s", showUnits(l), by, showUnits(got))
			}
		}
	})
}

func TestP14_3Product(t *testing.T) {
	for _, c := range []struct {
		a, b, want string
		e          api.Errno
	}{
		{"[0 2] 0,1", "[1 3] 1,-1", "[1 2] 0,1,-1", api.OK}, {"[0 4] -2,0,1", "[0 2] 0,1", "", api.ErrRange}, {"[0 4] -2,0,1", "[2 2] 3", "[2 2] 6", api.OK}, {"[0 4] -2,0,1", "[0 2] 3; (2 3] 0", "[0 2] -6,0,3; (2 3] 0", api.OK}, {"[0 4] 0,0,1", "[0 4] 0,0,1", "", api.ErrRange}, {"[0 4] 0,0,1", "[5 6] 0,0,1", "", api.OK}, {"[0 4] 0,0,1", "[4 6] 0,0,1", "[4 4] 256", api.OK}, {"[0 4) 0,0,1", "[4 6] 0,0,1", "", api.OK},
		// At single instants, both functions are reduced before.
		{"[0 4] 0,0,1", "[1+sqrt(3) 1+sqrt(3)] 0,1", "[1+sqrt(3) 1+sqrt(3)] 4,6", api.OK}, {"[0 1+sqrt(3)] 0,0,1", "[1+sqrt(3) 4] 1,0,1", "[1+sqrt(3) 1+sqrt(3)] 14,18", api.OK}, {"[0+sqrt(2) 0+sqrt(2)] 0,1", "[0+sqrt(2) 0+sqrt(2)] 0,1", "[0+sqrt(2) 0+sqrt(2)] 2", api.OK},
		// An error of any interval that is longer, and zero, of which every multiple is zero.
		{"[0 1] 0,1; (1 2] 0,0,1", "[0 2] 0,1", "", api.ErrRange}, {"[0 4] 0", "[0 3] 0,0,1", "[0 3] 0", api.OK}, {"[0 4] 5", "[0 3] 0,0,1", "[0 3] 0,0,5", api.OK}, {"", "[0 3] 0,0,1", "", api.OK}, {"[0 2] 1,1; (2 4] 0,1", "[0 2] 0,1; (2 4] 1,1", "[0 4] 0,1,1", api.OK},
	} {
		for _, order := range [][2]string{{c.a, c.b}, {c.b, c.a}} {
			if l, e := movingnumber.Product(units(order[0]), units(order[1])); e != c.e || showUnits(l) != c.want {
				t.Errorf("Product(%s; %s) = %s, %d; want %s, %d", order[0], order[1], showUnits(l), e, c.want, c.e)
			}
		}
	}
	refused, made := 0, 0
	pairs(func(a, b []api.NumberUnit) {
		l, e := movingnumber.Product(a, b)
		want := api.OK
		for _, u := range a {
			for _, v := range b {
				common := period.Intersect([]api.Interval{u.In}, []api.Interval{v.In})
				if len(common) > 0 && common[0].From != common[0].To && powers(u.F)+powers(v.F) > 2 && u.F != (api.Quad{}) && v.F != (api.Quad{}) {
					want = api.ErrRange
				}
			}
		}
		if e != want || e != api.OK && len(l) > 0 {
			t.Errorf("Product(%s; %s) = %s, %d; want %d", showUnits(a), showUnits(b), showUnits(l), e, want)
		}
		if want != api.OK {
			refused++
			return
		}
		made++
		if !is(l, instants(nil, a, b), both(a, b, number.Times)) {
			t.Errorf("Product(%s; %s) = %s", showUnits(a), showUnits(b), showUnits(l))
		}
	})
	if refused < 20 || made < 20 {
		t.Errorf("%d products, and %d were refused", made, refused)
	}
}

// powers returns the greatest power of time in a function.
func powers(f api.Quad) int {
	switch {
	case f.C2 != api.Rat{}:
		return 2
	case f.C1 != api.Rat{}:
		return 1
	}
	return 0
}

func TestP14_4(t *testing.T) {
	for s, want := range map[string]string{
		"[0 1) 5,2; [1 2] 7,2; [3 3] 1": "[0 2] 2", "": "", "[3 3] 1": "", "[0 1) 0,1; [1 1] 5; (1 2] 0,1": "[0 1) 1; (1 2] 1", "[0 1] 0,0,1; (1 2] 1": "[0 1] 0,2; (1 2] 0", "(0 0+sqrt(2)) -1,3,1/2; [0+sqrt(2) 2] 8": "(0 0+sqrt(2)) 3,1; [0+sqrt(2) 2] 0", "[0 1] 0,1; (1 2] 5,1; (2 3] 0": "[0 2] 1; (2 3] 0", "[0 2] 0,0,1; (2 3] -4,4": "[0 2] 0,2; (2 3] 4",
	} {
		if l := movingnumber.Derivative(units(s)); showUnits(l) != want {
			t.Errorf("Derivative(%s) = %s; want %s", s, showUnits(l), want)
		}
	}
	each(func(l []api.NumberUnit) {
		got := movingnumber.Derivative(l)
		if !is(got, instants(nil, l), func(x api.Real) (number, bool) {
			for _, u := range l {
				if u.In.From != u.In.To && contains(u.In, x) {
					return valueOf(api.Quad{C0: u.F.C1, C1: rational.Mul(rat("2"), u.F.C2)}, x), true
				}
			}
			return number{}, false
		}) {
			t.Errorf("Derivative(%s) = %s", showUnits(l), showUnits(got))
		}
	})
}

func TestP14_5Examples(t *testing.T) {
	for _, c := range []struct{ a, b, domain, less, atMost, equal string }{
		{"[0 4] -2,0,1", "[0 4] 0", "[0 4]", "[0 0+sqrt(2))", "[0 0+sqrt(2)]", "[0+sqrt(2) 0+sqrt(2)]"}, {"[0 3] 0,1", "[1 5] 2", "[1 3]", "[1 2)", "[1 2]", "[2 2]"}, {"[0 1) 0,1; [1 1] 5; (1 2] 0,1", "[0 2] 1", "[0 2]", "[0 1)", "[0 1)", ""}, {"[0 1) 1", "[1 2] 1", "", "", "", ""}, {"", "", "", "", "", ""}, {"[0 2] 0,1", "[0 2] 0,1", "[0 2]", "", "[0 2]", "[0 2]"}, {"[0 1) 2; (1 2] 2", "[0 2] 2", "[0 1), (1 2]", "", "[0 1), (1 2]", "[0 1), (1 2]"}, {"[0 2] 0,0,1", "[0+sqrt(2) 0+sqrt(2)] 2", "[0+sqrt(2) 0+sqrt(2)]", "", "[0+sqrt(2) 0+sqrt(2)]", "[0+sqrt(2) 0+sqrt(2)]"}, {"[0 2] 0,0,1", "[0+sqrt(2) 0+sqrt(2)] 3", "[0+sqrt(2) 0+sqrt(2)]", "[0+sqrt(2) 0+sqrt(2)]", "[0+sqrt(2) 0+sqrt(2)]", ""},
		{"[-1 3] 0", "[-1 3] 1,-2,1", "[-1 3]", "[-1 1), (1 3]", "[-1 3]", "[1 1]"}, {"[0 1] 0; (1 2] 5,-1; (2 3] 0", "[0 3] 1", "[0 3]", "[0 1], (2 3]", "[0 1], (2 3]", ""},
	} {
		for name, x := range map[string]struct {
			got  api.Bool
			want string
		}{"Less": {movingnumber.Less(units(c.a), units(c.b)), c.less}, "AtMost": {movingnumber.AtMost(units(c.a), units(c.b)), c.atMost}, "Equal": {movingnumber.Equal(units(c.a), units(c.b)), c.equal}} {
			if show(x.got.Domain) != c.domain || show(x.got.True) != x.want {
				t.Errorf("%s(%s; %s) = %s | %s; want %s | %s", name, c.a, c.b, show(x.got.Domain), show(x.got.True), c.domain, x.want)
			}
		}
	}
}

func TestP14_5(t *testing.T) {
	pairs(func(a, b []api.NumberUnit) {
		when := instants(nil, a, b)
		order := func(x api.Real) (int, bool) {
			v, ok := at(a, x)
			w, defined := at(b, x)
			if !ok || !defined {
				return 0, false
			}
			return real.Compare(v.Real(), w.Real()), true
		}
		for name, c := range map[string]struct {
			got      api.Bool
			accepted func(order int) bool
		}{
			"Less": {movingnumber.Less(a, b), func(order int) bool { return order < 0 }}, "AtMost": {movingnumber.AtMost(a, b), func(order int) bool { return order <= 0 }}, "Equal": {movingnumber.Equal(a, b), func(order int) bool { return order == 0 }},
		} {
			for _, x := range when {
				value, defined := movingbool.At(c.got, x)
				if n, ok := order(x); defined != ok || value != (ok && c.accepted(n)) {
					t.Errorf("%s(%s; %s) = %s | %s", name, showUnits(a), showUnits(b), show(c.got.Domain), show(c.got.True))
					break
				}
			}
			if e := movingbool.Check(c.got); e != api.OK {
				t.Errorf("%s(%s; %s) is not valid: %d", name, showUnits(a), showUnits(b), e)
			}
		}
	})
}

func TestP14_5When(t *testing.T) {
	for _, c := range [][4]string{
		{"[0 4] -2,0,1", "-1", "2", "[1 2]"}, {"[0 4] -2,0,1", "0", "0", "[0+sqrt(2) 0+sqrt(2)]"}, {"[0 4] -2,0,1", "2", "-1", ""}, {"[0 4] -2,0,1", "-9", "9", "[0 0+sqrt(11)]"}, {"[0 1) 0,1; [1 1] 5; (1 2] 0,1", "1/2", "3/2", "[1/2 1), (1 3/2]"}, {"[0 1) 0,1; [1 1] 5; (1 2] 0,1", "5", "6", "[1 1]"}, {"", "0", "1", ""}, {"[0 2] 3", "3", "3", "[0 2]"}, {"[0 1] 3; (1 2] 4; (2 3) 3", "3", "7/2", "[0 1], (2 3)"}, {"[-3 3] 0,0,1", "1", "4", "[-2 -1], [1 2]"}, {"[-3 3] 0,0,1", "5", "10", "[-3 0-sqrt(5)], [0+sqrt(5) 3]"},
	} {
		if got := movingnumber.When(units(c[0]), rat(c[1]), rat(c[2])); show(got) != c[3] {
			t.Errorf("When(%s; %s; %s) = %s; want %s", c[0], c[1], c[2], show(got), c[3])
		}
	}
	each(func(l []api.NumberUnit) {
		for _, bounds := range [][2]string{{"-1", "1"}, {"0", "0"}, {"1/2", "3"}, {"3", "1/2"}, {"2", "100"}, {"-5/2", "-1/3"}} {
			low, high := rat(bounds[0]), rat(bounds[1])
			got := movingnumber.When(l, low, high)
			for _, x := range instants([]api.Rat{low, high}, l) {
				value, defined := at(l, x)
				want := defined && real.CompareRat(value.Real(), low) >= 0 && real.CompareRat(value.Real(), high) <= 0
				if period.Contains(got, x) != want {
					t.Errorf("When(%s; %s; %s) = %s", showUnits(l), bounds[0], bounds[1], show(got))
					break
				}
			}
			if e := period.Check(got); e != api.OK {
				t.Errorf("When(%s; %s; %s) = %s", showUnits(l), bounds[0], bounds[1], show(got))
			}
		}
	})
}

// At every instant at which both are defined, one of the three comparisons holds; where Less is true, the difference is negative.
func TestP14_8Comparisons(t *testing.T) {
	pairs(func(a, b []api.NumberUnit) {
		less, equal, greater := movingnumber.Less(a, b), movingnumber.Equal(a, b), movingnumber.Less(b, a)
		if !movingbool.Equal(movingnumber.AtMost(a, b), movingbool.Or(less, equal)) || !movingbool.Equal(movingnumber.Equal(b, a), equal) {
			t.Errorf("the comparisons of %s and %s", showUnits(a), showUnits(b))
		}
		if !movingbool.Equal(movingbool.Not(greater), movingbool.Or(less, equal)) || movingbool.Sometime(movingbool.And(less, equal)) {
			t.Errorf("not one of the comparisons of %s and %s", showUnits(a), showUnits(b))
		}
		difference := movingnumber.Sub(a, b)
		for _, x := range instants(nil, a, b) {
			value, _ := movingbool.At(less, x)
			if d, defined := movingnumber.At(difference, x); defined && value != (real.Sign(d) < 0) {
				t.Errorf("the difference of %s and %s at %s", showUnits(a), showUnits(b), real.Print(x))
			}
		}
	})
}
