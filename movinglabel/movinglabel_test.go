package movinglabel_test

import (
	"slices"
	"testing"

	"viator/api"
	"viator/movingbool"
	"viator/movinglabel"
	"viator/period"
	"viator/rational"
	"viator/real"
)

func TestP16_1Check(t *testing.T) {
	for s, want := range map[string]api.Errno{
		"": api.OK, "[0 4) 1; [4 6] 2; (6 9] 1": api.OK, "[0 1) 1; (1 2] 1": api.OK, "[0 1) 1; [1 1] 2; (1 2] 1": api.OK, "[0 1] 3; (1 2] 3": api.ErrForm, "[0 1) 3; [1 2] 3": api.ErrForm, "[0 1) 3; [1 1] 3": api.ErrForm, "[1 1] 3; (1 2] 3": api.ErrForm, "[0 1] 3; [1 2] 4": api.ErrOrder, "[4 6] 2; [0 3] 1": api.ErrOrder, "[2 1] 0": api.ErrEmpty, "(1 1] 0": api.ErrEmpty,
	} {
		if e := movinglabel.Check(units(s)); e != want {
			t.Errorf("Check(%s) = %d; want %d", s, e, want)
		}
	}
	refused := 0
	each(func(w world, v value, l []api.LabelUnit) {
		if e := movinglabel.Check(l); e != api.OK {
			t.Errorf("Check(%s) = %d", showUnits(l), e)
		}
		cells, want := w.cells(v), api.OK
		if !slices.Equal(cells, l) {
			want = api.ErrForm
			refused++
		}
		if e := movinglabel.Check(cells); e != want {
			t.Errorf("Check(%s) = %d; want %d", showUnits(cells), e, want)
		}
	})
	if refused < 1000 {
		t.Errorf("Check refused %d only", refused)
	}
	for _, x := range wrong() {
		if e := movinglabel.Check([]api.LabelUnit{{In: api.Interval{From: re("-9"), To: x}}}); e != api.ErrForm {
			t.Errorf("Check of %v = %d", x, e)
		}
	}
}

func TestP16_1CheckLimit(t *testing.T) {
	many := make([]api.LabelUnit, api.MaxUnits)
	for k := range many {
		many[k].In = api.Interval{From: real.FromInt(k), To: real.FromInt(k)}
	}
	if e := movinglabel.Check(many); e != api.OK {
		t.Errorf("Check = %d", e)
	}
	more := append(many, api.LabelUnit{In: in("[1000 1000]")})
	if e := movinglabel.Check(more); e != api.ErrLimit {
		t.Errorf("Check of one more = %d", e)
	}
	if l, e := movinglabel.Normal(more); e != api.OK || len(l) != len(more) {
		t.Errorf("Normal of one more = %d units, %d", len(l), e)
	}
}

func TestP16_1Normal(t *testing.T) {
	each(func(w world, v value, l []api.LabelUnit) {
		cells := w.cells(v)
		slices.Reverse(cells)
		if got, e := movinglabel.Normal(cells); e != api.OK || !slices.Equal(got, l) {
			t.Errorf("Normal(%s) = %s, %d; want %s", showUnits(cells), showUnits(got), e, showUnits(l))
		}
	})
	if l, e := movinglabel.Normal(units("(2 3) 5; [0 2] 5")); e != api.OK || showUnits(l) != "[0 3) 5" {
		t.Errorf("Normal = %s, %d", showUnits(l), e)
	}
	for _, s := range []string{"[0 1] 1; [1 2] 1", "[0 9] 1; [3 3] 2", "(0 1) 1; (0 1) 1"} {
		if l, e := movinglabel.Normal(units(s)); e != api.ErrOverlap || len(l) != 0 {
			t.Errorf("Normal(%s) = %s, %d", s, showUnits(l), e)
		}
	}
}

func TestP16_2(t *testing.T) {
	each(func(w world, v value, l []api.LabelUnit) {
		var occur []int
		for bit, want := range v {
			label, ok := movinglabel.At(l, w.at(bit))
			if ok != (want != none) || ok && label != want || !ok && label != 0 {
				t.Errorf("At(%s; %s) = %d, %v", showUnits(l), real.Print(w.at(bit)), label, ok)
			}
			if ok {
				occur = append(occur, want)
			}
		}
		for _, outside := range reals("-2 9 -1-sqrt(2)") {
			if label, ok := movinglabel.At(l, outside); ok || label != 0 {
				t.Errorf("At(%s; %s) = %d, %v", showUnits(l), real.Print(outside), label, ok)
			}
		}
		if got, want := movinglabel.Domain(l), w.period(func(bit int) bool { return v[bit] != none }); !slices.Equal(got, want) {
			t.Errorf("Domain(%s) = %s", showUnits(l), show(got))
		}
		for _, label := range append(w.labels, 99) {
			if got, want := movinglabel.When(l, label), w.period(func(bit int) bool { return v[bit] == label }); !slices.Equal(got, want) {
				t.Errorf("When(%s; %d) = %s", showUnits(l), label, show(got))
			}
		}
		slices.Sort(occur)
		if got := movinglabel.Labels(l); !slices.Equal(got, slices.Compact(occur)) {
			t.Errorf("Labels(%s) = %v", showUnits(l), got)
		}
	})
}

func TestP16_3(t *testing.T) {
	each(func(w world, v value, l []api.LabelUnit) {
		first := w.labels[0]
		if slices.ContainsFunc(v, func(label int) bool { return label != first && label != none }) {
			return
		}
		if got := movinglabel.Constant(first, movinglabel.Domain(l)); !slices.Equal(got, l) {
			t.Errorf("Constant = %s; want %s", showUnits(got), showUnits(l))
		}
	})
	// The first label of the model stands for true, and the second one for false.
	w := two()
	for _, v := range w.values() {
		b := api.Bool{Domain: w.period(func(bit int) bool { return v[bit] != none }), True: w.period(func(bit int) bool { return v[bit] == w.labels[0] })}
		if got := movinglabel.FromBool(b, w.labels[1], w.labels[0]); !slices.Equal(got, w.units(v)) {
			t.Errorf("FromBool = %s; want %s", showUnits(got), showUnits(w.units(v)))
		}
		if got := movinglabel.FromBool(b, 4, 4); !slices.Equal(got, movinglabel.Constant(4, b.Domain)) {
			t.Errorf("FromBool of one label = %s", showUnits(got))
		}
	}
}

func TestP16_4(t *testing.T) {
	each(func(w world, v value, l []api.LabelUnit) {
		for _, label := range append(w.labels, 99) {
			got := movinglabel.Is(l, label)
			if !slices.Equal(got.Domain, movinglabel.Domain(l)) || !slices.Equal(got.True, movinglabel.When(l, label)) || movingbool.Check(got) != api.OK {
				t.Errorf("Is(%s; %d) = %s | %s", showUnits(l), label, show(got.Domain), show(got.True))
			}
		}
	})
	pairs(func(w world, v, u value, a, b []api.LabelUnit) {
		domain := w.period(func(bit int) bool { return v[bit] != none && u[bit] != none })
		for name, c := range map[string]struct {
			got   api.Bool
			holds func(a, b int) bool
		}{
			"Same": {movinglabel.Same(a, b), func(a, b int) bool { return a == b }}, "Less": {movinglabel.Less(a, b), func(a, b int) bool { return a < b }},
		} {
			want := w.period(func(bit int) bool { return v[bit] != none && u[bit] != none && c.holds(v[bit], u[bit]) })
			if !slices.Equal(c.got.Domain, domain) || !slices.Equal(c.got.True, want) {
				t.Errorf("%s(%s; %s) = %s | %s", name, showUnits(a), showUnits(b), show(c.got.Domain), show(c.got.True))
			}
		}
	})
}

func TestP16_5Map(t *testing.T) {
	each(func(w world, v value, l []api.LabelUnit) {
		for n, f := range []func(label int) int{func(label int) int { return -2 * label }, func(label int) int { return label / 3 }, func(label int) int { return 1 }} {
			want := combined(v, v, func(a, _ int) int {
				if a == none {
					return none
				}
				return f(a)
			})
			got := movinglabel.Map(l, func(label int) int {
				if !slices.Contains(v, label) || label == none {
					t.Errorf("Map(%s) asks for %d", showUnits(l), label)
				}
				return f(label)
			})
			if !slices.Equal(got, w.units(want)) {
				t.Errorf("Map(%s) with function %d = %s; want %s", showUnits(l), n, showUnits(got), showUnits(w.units(want)))
			}
		}
	})
}

func TestP16_5Combine(t *testing.T) {
	pairs(func(w world, v, u value, a, b []api.LabelUnit) {
		for n, f := range []func(a, b int) int{func(a, b int) int { return 10*a + b }, func(a, b int) int { return max(a, b) }, func(a, b int) int { return 0 }} {
			both := func(a, b int) bool {
				for bit := range v {
					if v[bit] == a && u[bit] == b && a != none && b != none {
						return true
					}
				}
				return false
			}
			want := combined(v, u, func(a, b int) int {
				if a == none || b == none {
					return none
				}
				return f(a, b)
			})
			got := movinglabel.Combine(a, b, func(a, b int) int {
				if !both(a, b) {
					t.Errorf("Combine asks for %d and %d", a, b)
				}
				return f(a, b)
			})
			if !slices.Equal(got, w.units(want)) {
				t.Errorf("Combine(%s; %s) with function %d = %s; want %s", showUnits(a), showUnits(b), n, showUnits(got), showUnits(w.units(want)))
			}
		}
	})
}

func TestP16_6(t *testing.T) {
	pairs(func(w world, v, u value, a, b []api.LabelUnit) {
		want := w.units(combined(v, u, func(a, b int) int {
			if b == none {
				return none
			}
			return a
		}))
		if got := movinglabel.Restrict(a, movinglabel.Domain(b)); !slices.Equal(got, want) {
			t.Errorf("Restrict(%s; %s) = %s; want %s", showUnits(a), show(movinglabel.Domain(b)), showUnits(got), showUnits(want))
		}
		want = w.units(combined(v, u, func(a, b int) int {
			if b != none {
				return b
			}
			return a
		}))
		if got := movinglabel.Patch(a, b); !slices.Equal(got, want) {
			t.Errorf("Patch(%s; %s) = %s; want %s", showUnits(a), showUnits(b), showUnits(got), showUnits(want))
		}
	})
	each(func(w world, v value, l []api.LabelUnit) {
		for _, s := range []string{"0", "5/7", "-100000000000000000000"} {
			later := w
			later.instants = nil
			for _, x := range w.instants {
				later.instants = append(later.instants, real.Shift(x, rat(s)))
			}
			if got := movinglabel.Shift(l, rat(s)); !slices.Equal(got, later.units(v)) {
				t.Errorf("Shift(%s; %s) = %s", showUnits(l), s, showUnits(got))
			}
		}
	})
}

func TestP16_7Visits(t *testing.T) {
	for s, want := range map[string][]int{"": nil, "[0 4) 1; [4 6] 2; (6 9] 1": {1, 2, 1}, "[0 1) 1; (1 2] 1; [3 3] 1; [4 5] 0; [6 7] 0": {1, 0}, "[0 1) 1; [1 1] 2; (1 2] 1": {1, 2, 1}} {
		if got := movinglabel.Visits(units(s)); !slices.Equal(got, want) {
			t.Errorf("Visits(%s) = %v; want %v", s, got, want)
		}
	}
	each(func(w world, v value, l []api.LabelUnit) {
		var labels []int
		for _, label := range v {
			if n := len(labels); label != none && (n == 0 || labels[n-1] != label) {
				labels = append(labels, label)
			}
		}
		if got := movinglabel.Visits(l); !slices.Equal(got, labels) {
			t.Errorf("Visits(%s) = %v; want %v", showUnits(l), got, labels)
		}
	})
}

func TestP16_7Longer(t *testing.T) {
	for _, c := range [][3]string{
		{"[0 4) 1; [4 6] 2; (6 9] 1", "3", "[0 4) 1; (6 9] 1"}, {"[0 4) 1; [4 6] 2; (6 9] 1", "2", "[0 4) 1; [4 6] 2; (6 9] 1"}, {"[0 4) 1; [4 6] 2; (6 9] 1", "5", ""}, {"[0 4) 1; [4 4] 2; (4 5) 1", "0", "[0 4) 1; [4 4] 2; (4 5) 1"}, {"[0 4) 1; [4 4] 2; (4 5) 1", "-1", "[0 4) 1; [4 4] 2; (4 5) 1"}, {"[0 4) 1; [4 4] 2; (4 5) 1", "1/1000", "[0 4) 1; (4 5) 1"}, {"(0 4) 1", "4", "(0 4) 1"}, {"(0 4) 1", "4001/1000", ""}, {"[1 1+sqrt(2)) 5; (3 3+sqrt(3)) 6", "3/2", "(3 3+sqrt(3)) 6"}, {"[0+sqrt(2) 1+sqrt(2)] 5", "1", "[0+sqrt(2) 1+sqrt(2)] 5"}, {"[0+sqrt(2) 0+sqrt(5)] 5; [7 9] 5", "41/50", "[0+sqrt(2) 0+sqrt(5)] 5; [7 9] 5"}, {"[0+sqrt(2) 0+sqrt(5)] 5; [7 9] 5", "83/100", "[7 9] 5"}, {"", "0", ""},
	} {
		if got := movinglabel.Longer(units(c[0]), rat(c[1])); showUnits(got) != c[2] || movinglabel.Check(got) != api.OK {
			t.Errorf("Longer(%s; %s) = %s; want %s", c[0], c[1], showUnits(got), c[2])
		}
	}
}

func TestP16_7Follows(t *testing.T) {
	for _, c := range []struct {
		l             string
		first, second int
		want          string
	}{
		{"[0 4) 1; [4 6] 2; (6 9] 1", 1, 2, "4"}, {"[0 4) 1; [4 6] 2; (6 9] 1", 2, 1, "6"}, {"[0 4) 1; [4 6] 2; (6 9] 1", 1, 1, ""}, {"[0 1) 1; [1 1] 2; (1 2] 3", 1, 3, ""}, {"[0 1) 1; [1 1] 2; (1 2] 3", 1, 2, ""}, {"[0 1) 1; [1 1] 2; (1 2] 3", 2, 3, ""}, {"[0 1) 1; (1 2] 3", 1, 3, ""}, {"[0 1] 1; (1 2] 3", 1, 3, "1"}, {"[0 1) 1; [1 1] 2; (1 2] 1", 1, 1, ""}, {"[0 1] 1; (1 2] 2; (2 3) 1; [3 4] 2; (4 5] 1; [6 7] 2", 1, 2, "1 3"}, {"[0 0+sqrt(2)) 1; [0+sqrt(2) 3] 2", 1, 2, "0+sqrt(2)"},
	} {
		if got := movinglabel.Follows(units(c.l), c.first, c.second); showReals(got) != c.want {
			t.Errorf("Follows(%s; %d; %d) = %s; want %s", c.l, c.first, c.second, showReals(got), c.want)
		}
	}
	found := 0
	each(func(w world, v value, l []api.LabelUnit) {
		for _, first := range append(w.labels, 99) {
			for _, second := range append(w.labels, 99) {
				var want []api.Real
				for bit := 2; bit < len(v)-2; bit += 2 {
					if first != second && v[bit-1] == first && v[bit+1] == second && (v[bit] == first || v[bit] == second) {
						want = append(want, w.at(bit))
					}
				}
				if got := movinglabel.Follows(l, first, second); !slices.Equal(got, want) {
					t.Errorf("Follows(%s; %d; %d) = %s; want %s", showUnits(l), first, second, showReals(got), showReals(want))
				}
				found += len(want)
			}
		}
	})
	if found < 500 {
		t.Errorf("%d instants only", found)
	}
}

func TestP16_7Equal(t *testing.T) {
	pairs(func(w world, v, u value, a, b []api.LabelUnit) {
		if movinglabel.Equal(a, b) != slices.Equal(v, u) || !movinglabel.Equal(a, w.units(v)) {
			t.Errorf("Equal(%s; %s)", showUnits(a), showUnits(b))
		}
	})
	for _, s := range []string{"", "(0 1] 5", "[0 1) 5", "[0 2] 5", "[-1 1] 5", "[0 1] 6", "[0 1] 5; [2 2] 5"} {
		if movinglabel.Equal(units("[0 1] 5"), units(s)) || movinglabel.Equal(units(s), units("[0 1] 5")) {
			t.Errorf("Equal of [0 1] 5 and %s", s)
		}
	}
	if !movinglabel.Equal(nil, []api.LabelUnit{}) {
		t.Error("nil and empty lists are not equal")
	}
}

// The domains of the parts with each label are disjoint, and together the domain; a moving label with two labels is FromBool of Is.
func TestP16_8Parts(t *testing.T) {
	each(func(w world, v value, l []api.LabelUnit) {
		var together []api.Interval
		labels := movinglabel.Labels(l)
		for _, label := range labels {
			part := movinglabel.When(l, label)
			if period.Overlaps(together, part) {
				t.Errorf("two labels of %s at one instant", showUnits(l))
			}
			together = period.Union(together, part)
			if len(labels) == 2 {
				other := labels[0] + labels[1] - label
				if got := movinglabel.FromBool(movinglabel.Is(l, label), other, label); !movinglabel.Equal(got, l) {
					t.Errorf("FromBool of Is(%s; %d) = %s", showUnits(l), label, showUnits(got))
				}
			}
		}
		if !period.Equal(together, movinglabel.Domain(l)) {
			t.Errorf("the labels of %s are there during %s", showUnits(l), show(together))
		}
	})
}

// Combine with equality agrees with Same, and patching a moving label by a part of itself changes nothing.
func TestP16_8Pairs(t *testing.T) {
	pairs(func(w world, v, u value, a, b []api.LabelUnit) {
		equality := movinglabel.Combine(a, b, func(a, b int) int {
			if a == b {
				return 7
			}
			return 3
		})
		if got := movinglabel.Same(a, b); !movingbool.Equal(got, movinglabel.Is(equality, 7)) || !movinglabel.Equal(equality, movinglabel.FromBool(got, 3, 7)) {
			t.Errorf("Same(%s; %s) = %s | %s", showUnits(a), showUnits(b), show(got.Domain), show(got.True))
		}
		part := movinglabel.Restrict(a, movinglabel.Domain(b))
		if got := movinglabel.Patch(a, part); !movinglabel.Equal(got, a) {
			t.Errorf("Patch(%s; %s) = %s", showUnits(a), showUnits(part), showUnits(got))
		}
	})
}

// Arguments stay as they are, and results have memory of their own.
func TestP16_8Arguments(t *testing.T) {
	a, b, during := units("[0 1) 1; [1 1] 5; (1 2] 1; (2 3] 2"), units("[0 1] 2; (1 3] 1"), list("[0 1], [2 3]")
	before := showUnits(a) + showUnits(b) + show(during)
	normal, _ := movinglabel.Normal(a)
	same := func(label int) int { return label }
	first := func(a, b int) int { return a }
	for _, l := range [][]api.LabelUnit{normal, movinglabel.Constant(3, during), movinglabel.FromBool(api.Bool{Domain: during, True: during}, 1, 2), movinglabel.Map(a, same), movinglabel.Combine(a, b, first), movinglabel.Restrict(a, during), movinglabel.Restrict(a, list("[-9 9]")), movinglabel.Patch(a, nil), movinglabel.Patch(nil, b), movinglabel.Shift(a, rat("0")), movinglabel.Longer(a, rat("0")), movinglabel.Longer(a, rat("1"))} {
		clear(l[:cap(l)])
	}
	for _, b := range []api.Bool{movinglabel.Is(a, 1), movinglabel.Same(a, b), movinglabel.Less(a, b), movinglabel.Same(a, a)} {
		shown := show(b.True)
		clear(b.Domain[:cap(b.Domain)])
		if show(b.True) != shown {
			t.Error("both periods of a result share memory")
		}
		clear(b.True)
	}
	clear(movinglabel.Domain(a))
	clear(movinglabel.When(a, 1))
	clear(movinglabel.Labels(a))
	clear(movinglabel.Visits(a))
	clear(movinglabel.Follows(b, 2, 1))
	if after := showUnits(a) + showUnits(b) + show(during); after != before {
		t.Errorf("the arguments are %s, not %s", after, before)
	}
}

// Nothing is specified for lists that are not valid, and functions that are nil or panic, but no function of the package may panic or go on for ever.
func TestP1NotValid(t *testing.T) {
	ends := append(wrong(), reals("0 1 0+sqrt(2)")...)
	for k, x := range ends {
		for n, y := range ends {
			i := api.Interval{From: x, To: y, OpenFrom: k > n, OpenTo: k%2 == 0}
			a := []api.LabelUnit{{In: i, Label: 1}, {In: api.Interval{From: y, To: x}, Label: 2}, {In: i}}
			b := []api.LabelUnit{{In: api.Interval{From: y, To: y}, Label: 1}, {In: i, Label: 2}}
			during := []api.Interval{i, {From: x, To: x}, i}
			movinglabel.Check(a)
			movinglabel.Normal(a)
			movinglabel.At(a, y)
			movinglabel.Domain(a)
			movinglabel.When(a, 1)
			movinglabel.Labels(a)
			movinglabel.Constant(1, during)
			movinglabel.FromBool(api.Bool{Domain: during, True: []api.Interval{i}}, 1, 2)
			movinglabel.Is(b, 2)
			movinglabel.Same(a, b)
			movinglabel.Less(b, a)
			movinglabel.Map(a, func(label int) int { panic(label) })
			movinglabel.Map(a, nil)
			movinglabel.Combine(a, b, func(a, b int) int { panic(a) })
			movinglabel.Combine(a, a, nil)
			movinglabel.Restrict(a, during)
			movinglabel.Patch(a, b)
			movinglabel.Shift(a, y.P)
			movinglabel.Visits(a)
			movinglabel.Longer(a, rational.Neg(x.P))
			movinglabel.Follows(a, 1, 2)
			movinglabel.Equal(a, b)
		}
	}
}
