package envelope_test

import (
	"slices"
	"testing"

	"viator/api"
	"viator/envelope"
	"viator/movinglabel"
	"viator/movingnumber"
	"viator/period"
	"viator/real"
)

func TestP19_1(t *testing.T) {
	for s, want := range map[string]api.Errno{
		"": api.OK, "1: [0 4] 0,1 | 2: [0 4] 4,-1": api.OK, "1: | 1073741824:": api.OK, "0:": api.ErrId, "-1:": api.ErrId, "1073741825:": api.ErrId, "2: | 2:": api.ErrOrder, "2: | 1:": api.ErrOrder, "1: [0 1] 0 | 3: | 2: ": api.ErrOrder,
		"1: [0 4] 0,1; [4 5] 0": api.ErrOrder, "1: [0 4] 0,1; (4 5] 0,1": api.ErrForm, "1: [0 4] 0 | 2: [3 2] 0": api.ErrEmpty, "1: [0 4] 0 | 2: [2 2] 0,1": api.ErrForm,
		// The first curve with an error counts, and of this one the first error.
		"1: [3 2] 0 | 0:": api.ErrEmpty, "0: [3 2] 0": api.ErrId, "2: | 1: [3 2] 0": api.ErrOrder, "2: | 0: [3 2] 0": api.ErrId, "2: [0 4] 0,1; (4 5] 0,1 | 1:": api.ErrForm,
	} {
		if e := envelope.Check(curves(s)); e != want {
			t.Errorf("Check(%s) = %d; want %d", s, e, want)
		}
	}
	many := make([]envelope.Curve, api.MaxObjects)
	for k := range many {
		many[k].Id = k + 1
	}
	if e := envelope.Check(many); e != api.OK {
		t.Errorf("Check of %d curves = %d", len(many), e)
	}
	many[0].Id = 0 // too many comes first
	if e := envelope.Check(append(many, envelope.Curve{Id: 999})); e != api.ErrLimit {
		t.Errorf("Check of one more = %d", e)
	}
	if e := envelope.Check(many); e != api.ErrId {
		t.Errorf("Check of an id that is zero = %d", e)
	}
	units := make([]api.NumberUnit, api.MaxUnits+1)
	if e := envelope.Check([]envelope.Curve{{Id: 1, Units: units}}); e != api.ErrLimit {
		t.Errorf("Check of many units = %d", e)
	}
	for _, x := range wrong() {
		if e := envelope.Check([]envelope.Curve{{Id: 1, Units: []api.NumberUnit{{In: api.Interval{From: re("-9"), To: x}}}}}); e != api.ErrForm {
			t.Errorf("Check of an end %v = %d", x, e)
		}
	}
}

func TestP19_2Examples(t *testing.T) {
	for s, want := range map[string]string{
		"": "", "5:": "", "5: [0 1] 3": "[0 1] 5", "1: [0 4] 0,1 | 2: [0 4] 4,-1": "[0 2] 1 2; (2 4] 2 1", "1: [0 2] 0,0,1 | 2: [1 3] 2": "[0 1) 1; [1 0+sqrt(2)] 1 2; (0+sqrt(2) 2] 2 1; (2 3] 2",
		// At the instant of a meeting, the lesser id comes first.
		"1: [0 4] 4,-1 | 2: [0 4] 0,1": "[0 2) 2 1; [2 4] 1 2", "1: [0 4] 4,-4,1 | 2: [0 4] 0": "[0 2) 2 1; [2 2] 1 2; (2 4] 2 1", "1: [0 4] 0 | 2: [0 4] 4,-4,1": "[0 4] 1 2", "7: [0 4] 3 | 9: [0 4] 3": "[0 4] 7 9",
		// Three at once, and one that is there for an instant only.
		"1: [0 4] 0,1 | 2: [0 4] 4,-1 | 3: [0 4] 2": "[0 2) 1 3 2; [2 2] 1 2 3; (2 4] 2 3 1", "1: [0 4] 0,1 | 2: [2 2] 2 | 3: [0 4] 4,-1": "[0 2) 1 3; [2 2] 1 2 3; (2 4] 3 1", "1: [0 4] 0,1 | 2: [2 2] 1 | 3: [0 4] 4,-1": "[0 2) 1 3; [2 2] 2 1 3; (2 4] 3 1",
		// Gaps, and units between which the order does not change.
		"3: [0 1] 0 | 5: [2 3] 0": "[0 1] 3; [2 3] 5", "3: [0 1) 0 | 5: [1 3] 0": "[0 1) 3; [1 3] 5", "3: [0 1) 0; (1 2] 0": "[0 1) 3; (1 2] 3", "3: [0 1) 0; [1 1] 5; (1 2] 0": "[0 2] 3", "1: [0 1) 0; [1 1] 5; (1 2] 0 | 2: [0 2] 1": "[0 1) 1 2; [1 1] 2 1; (1 2] 1 2", "1: [0 1] 0,1; (1 2] 2,-1 | 2: [0 3] 1": "[0 2] 1 2; (2 3] 2", "1: [0+sqrt(2) 0+sqrt(2)] 0,1 | 2: [0 2] 7/5": "[0 0+sqrt(2)) 2; [0+sqrt(2) 0+sqrt(2)] 2 1; (0+sqrt(2) 2] 2",
	} {
		if got := envelope.Orders(curves(s)); showOrders(got) != want {
			t.Errorf("Orders(%s) = %s; want %s", s, showOrders(got), want)
		}
	}
	for _, c := range [][3]string{
		{"1: [0 4] 0,1 | 2: [0 4] 4,-1", "2", "1 2"}, {"1: [0 4] 0,1 | 2: [0 4] 4,-1", "0+sqrt(5)", "2 1"}, {"1: [0 4] 0,1 | 2: [0 4] 4,-1", "5", ""}, {"1: [0 4) 0,1 | 2: [0 4] 4,-1", "4", "2"}, {"3: [0 9] 0,1 | 7: [0 9] 0,0,1 | 8: [0 9] 3", "0+sqrt(3)", "3 7 8"}, {"3: [0 9] 0,1 | 7: [0 9] 0,0,1 | 8: [0 9] 3", "0+sqrt(2)", "3 7 8"}, {"3: [0 9] 0,1 | 7: [0 9] 0,0,1 | 8: [0 9] 3", "2", "3 8 7"}, {"3: [0 9] 0,1 | 7: [0 9] 0,0,1 | 8: [0 9] 3", "0+sqrt(1/2)", "7 3 8"}, {"3: [0 9] 0,1 | 7: [0 9] 0,0,1 | 8: [0 9] 3", "0", "3 7 8"}, {"", "0", ""},
	} {
		if got := envelope.At(curves(c[0]), re(c[1])); showIds(got) != c[2] {
			t.Errorf("At(%s; %s) = %s; want %s", c[0], c[1], showIds(got), c[2])
		}
	}
}

// Orders by the words of the chapter: at each instant, there is one with the ids in order; none could be longer.
func TestP19_2(t *testing.T) {
	several := 0
	sets(func(l []envelope.Curve) {
		orders := envelope.Orders(l)
		name := "Orders(" + showCurves(l) + ") = " + showOrders(orders)
		for k, o := range orders {
			if e := period.CheckInterval(o.In); e != api.OK || len(o.Ids) == 0 {
				t.Fatalf("%s: %d", name, e)
			}
			if k == 0 {
				continue
			}
			before := orders[k-1]
			switch e := period.Check([]api.Interval{before.In, o.In}); e {
			case api.OK:
			case api.ErrForm:
				if slices.Equal(before.Ids, o.Ids) {
					t.Fatalf("%s: %v can be joined", name, o)
				}
			default:
				t.Fatalf("%s: %d", name, e)
			}
		}
		all := instants(l)
		for _, o := range orders {
			all = append(all, o.In.From, o.In.To)
		}
		for _, m := range all {
			want := orderAt(l, m)
			if got := envelope.At(l, m); !slices.Equal(got, want) {
				t.Fatalf("At(%s; %s) = %s; want %s", showCurves(l), real.Print(m), showIds(got), showIds(want))
			}
			var got []int
			for _, o := range orders {
				if contains(o.In, m) {
					got = o.Ids
				}
			}
			if !slices.Equal(got, want) {
				t.Fatalf("%s: at %s it is %s", name, real.Print(m), showIds(want))
			}
		}
		if len(orders) > 5 {
			several++
		}
	})
	if several < 100 {
		t.Errorf("%d lists with many orders only", several)
	}
}

func TestP19_3Examples(t *testing.T) {
	for _, c := range []struct {
		s, who, value string
		n             int
	}{
		{"1: [0 4] 0,1 | 2: [0 4] 4,-1", "[0 2] 1; (2 4] 2", "[0 2] 0,1; (2 4] 4,-1", 0}, {"1: [0 4] 0,1 | 2: [0 4] 4,-1", "[0 2] 2; (2 4] 1", "[0 2] 4,-1; (2 4] 0,1", 1}, {"1: [0 4] 0,1 | 2: [0 4] 4,-1", "", "", 2}, {"1: [0 4] 0,1 | 2: [0 4] 4,-1", "", "", 63}, {"1: [0 2] 0,0,1 | 2: [1 3] 2", "[0 0+sqrt(2)] 1; (0+sqrt(2) 3] 2", "[0 0+sqrt(2)] 0,0,1; (0+sqrt(2) 3] 2", 0}, {"1: [0 2] 0,0,1 | 2: [1 3] 2", "[1 0+sqrt(2)] 2; (0+sqrt(2) 2] 1", "[1 0+sqrt(2)] 2; (0+sqrt(2) 2] 0,0,1", 1}, {"1: [0 4] 3 | 2: [0 4] 3", "[0 4] 1", "[0 4] 3", 0}, {"1: [0 4] 3 | 2: [0 4] 3", "[0 4] 2", "[0 4] 3", 1},
		// The value is in normal form, whoever has it.
		{"1: [0 4] 4,-4,1 | 2: [0 4] 0", "[0 2) 2; [2 2] 1; (2 4] 2", "[0 4] 0", 0}, {"1: [0 4] 4,-4,1 | 2: [0 4] 0", "[0 2) 1; [2 2] 2; (2 4] 1", "[0 4] 4,-4,1", 1}, {"1: [0 1] 0,1; (3 4] 0,1 | 2: [0 4] 0,1", "[0 1] 1; (1 3] 2; (3 4] 1", "[0 4] 0,1", 0}, {"1: [0 4] 4,-1 | 2: [0 4] 0,1", "[0 2) 2; [2 4] 1", "[0 2] 0,1; (2 4] 4,-1", 0}, {"1: [0 1) 0,1; (1 2] 0,1 | 2: [1 1] 1", "[0 1) 1; [1 1] 2; (1 2] 1", "[0 2] 0,1", 0}, {"1: [0+sqrt(2) 0+sqrt(2)] 0,1 | 2: [0 4] 2", "[0 0+sqrt(2)) 2; [0+sqrt(2) 0+sqrt(2)] 1; (0+sqrt(2) 4] 2", "[0 0+sqrt(2)) 2; [0+sqrt(2) 0+sqrt(2)] 0,1; (0+sqrt(2) 4] 2", 0}, {"", "", "", 0}, {"4:", "", "", 0}, {"4: [0 1) 3; [1 1] 0; (1 2] 3", "[0 2] 4", "[0 1) 3; [1 1] 0; (1 2] 3", 0},
	} {
		who, value, e := envelope.Nth(curves(c.s), c.n)
		if e != api.OK || showLabels(who) != c.who || showNumbers(value) != c.value {
			t.Errorf("Nth(%s; %d) = %s and %s, %d; want %s and %s", c.s, c.n, showLabels(who), showNumbers(value), e, c.who, c.value)
		}
		if c.n > 0 {
			continue
		}
		if who, value := envelope.Least(curves(c.s)); showLabels(who) != c.who || showNumbers(value) != c.value {
			t.Errorf("Least(%s) = %s and %s; want %s and %s", c.s, showLabels(who), showNumbers(value), c.who, c.value)
		}
	}
	for _, n := range []int{-1, api.MaxObjects, -1 << 40, 1 << 40} {
		if who, value, e := envelope.Nth(curves("1: [0 4] 0,1"), n); e != api.ErrRange || len(who)+len(value) > 0 {
			t.Errorf("Nth for %d = %v and %v, %d", n, who, value, e)
		}
	}
}

func TestP19_3(t *testing.T) {
	sets(func(l []envelope.Curve) {
		for n := -1; n <= len(l); n++ {
			who, value := envelope.Least(l)
			e := api.OK
			if n >= 0 {
				who, value, e = envelope.Nth(l, n)
			}
			place := max(n, 0)
			if e != api.OK || movinglabel.Check(who) != api.OK || movingnumber.Check(value) != api.OK {
				t.Fatalf("envelope %d of %s is %s and %s, %d", n, showCurves(l), showLabels(who), showNumbers(value), e)
			}
			all := instants(l)
			for _, u := range who {
				all = append(all, u.In.From, u.In.To)
			}
			for _, m := range all {
				order := orderAt(l, m)
				id, named := movinglabel.At(who, m)
				least, defined := movingnumber.At(value, m)
				if named != (place < len(order)) || defined != named {
					t.Fatalf("envelope %d of %s is %s and %s at %s", n, showCurves(l), showLabels(who), showNumbers(value), real.Print(m))
				}
				if !named {
					continue
				}
				want, _ := valueAt(curveWith(l, order[place]), m)
				if id != order[place] || least != want.Real() {
					t.Fatalf("envelope %d of %s is %s and %s at %s; want %d and %s", n, showCurves(l), showLabels(who), showNumbers(value), real.Print(m), order[place], real.Print(want.Real()))
				}
			}
		}
	})
}
