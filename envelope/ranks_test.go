package envelope_test

import (
	"slices"
	"testing"

	"viator/api"
	"viator/envelope"
	"viator/movinglabel"
	"viator/movingnumber"
	"viator/period"
	"viator/real"
)

func TestP19_4Examples(t *testing.T) {
	const cross, meet, three = "1: [0 4] 0,1 | 2: [0 4] 4,-1", "1: [0 4] 4,-4,1 | 2: [0 4] 0", "3: [0 4] 0,1 | 5: [0 4] 4,-1 | 8: [1 9] 2"
	for _, c := range []struct {
		s    string
		id   int
		want string
	}{
		{cross, 1, "[0 2] 0; (2 4] 1"}, {cross, 2, "[0 2] 1; (2 4] 0"}, {meet, 1, "[0 2) 1; [2 2] 0; (2 4] 1"}, {meet, 2, "[0 2) 0; [2 2] 1; (2 4] 0"}, {three, 3, "[0 2] 0; (2 4] 2"}, {three, 5, "[0 1) 1; [1 2) 2; [2 2] 1; (2 4] 0"}, {three, 8, "[1 2) 1; [2 2] 2; (2 4] 1; (4 9] 0"}, {"7: [0 1) 3; (1 2] 3", 7, "[0 1) 0; (1 2] 0"}, {"7: [0 1) 3; [1 1] 4; (1 2] 3", 7, "[0 2] 0"}, {"7:", 7, ""}, {"6: [0 9] 0 | 7:", 7, ""}, {"6: [0 9] 0 | 7: [0+sqrt(2) 0+sqrt(3)) -1,0,1", 7, "[0+sqrt(2) 0+sqrt(3)) 1"},
	} {
		got, e := envelope.Rank(curves(c.s), c.id)
		if e != api.OK || showLabels(got) != c.want {
			t.Errorf("Rank(%s; %d) = %s, %d; want %s", c.s, c.id, showLabels(got), e, c.want)
		}
	}
	for _, c := range []struct {
		s     string
		id, n int
		want  string
		e     api.Errno
	}{
		{cross, 1, 0, "", api.OK}, {cross, 1, 1, "[0 2]", api.OK}, {cross, 2, 1, "(2 4]", api.OK}, {cross, 1, 2, "[0 4]", api.OK}, {meet, 1, 1, "[2 2]", api.OK}, {meet, 2, 1, "[0 2), (2 4]", api.OK}, {meet, 2, 1 << 40, "[0 4]", api.OK}, {three, 5, 2, "[0 1), [2 4]", api.OK}, {three, 8, 1, "(4 9]", api.OK}, {three, 8, 2, "[1 2), (2 9]", api.OK}, {"7: [0 1) 3; (1 2] 3", 7, 1, "[0 1), (1 2]", api.OK},
		{cross, 1, -1, "", api.ErrRange}, {cross, 3, 1, "", api.ErrNotFound}, {cross, 3, -1, "", api.ErrNotFound}, {"", 1, 1, "", api.ErrNotFound}, {"7:", 7, -1, "", api.ErrRange}, {"7:", 7, 5, "", api.OK}, {"7:", 0, 5, "", api.ErrNotFound},
	} {
		if got, e := envelope.Among(curves(c.s), c.id, c.n); e != c.e || show(got) != c.want {
			t.Errorf("Among(%s; %d; %d) = %s, %d; want %s, %d", c.s, c.id, c.n, show(got), e, c.want, c.e)
		}
	}
	for _, id := range []int{0, 3, -1} {
		if got, e := envelope.Rank(curves(cross), id); e != api.ErrNotFound || len(got) > 0 {
			t.Errorf("Rank of the id %d = %v, %d", id, got, e)
		}
	}
	for s, want := range map[string]string{
		"": "", "7:": "", cross: "[0 4] 2", three: "[0 1) 2; [1 4] 3; (4 9] 1", "7: [0 1) 3; (1 2] 3": "[0 1) 1; (1 2] 1", "3: [0 1] 0 | 5: (1 3] 0": "[0 3] 1", "3: [0 1] 0 | 5: [1 3] 0": "[0 1) 1; [1 1] 2; (1 3] 1", "3: [0 1) 0; [1 1] 4; (1 2] 5 | 5: [1 3] 0": "[0 1) 1; [1 2] 2; (2 3] 1", "3: [0 1] 0 | 5: [2 3] 0 | 7: [0 0+sqrt(5)] 1": "[0 1] 2; (1 2) 1; [2 0+sqrt(5)] 2; (0+sqrt(5) 3] 1",
	} {
		if got := envelope.Count(curves(s)); showLabels(got) != want {
			t.Errorf("Count(%s) = %s; want %s", s, showLabels(got), want)
		}
	}
}

// Ranks and counts by the words of the chapter.
func TestP19_4(t *testing.T) {
	sets(func(l []envelope.Curve) {
		all := instants(l)
		count := envelope.Count(l)
		for _, m := range all {
			got, defined := movinglabel.At(count, m)
			if want := len(orderAt(l, m)); got != want || defined != (want > 0) || movinglabel.Check(count) != api.OK {
				t.Fatalf("Count(%s) = %s: %d at %s", showCurves(l), showLabels(count), want, real.Print(m))
			}
		}
		for _, c := range l {
			rank, e := envelope.Rank(l, c.Id)
			if e != api.OK || movinglabel.Check(rank) != api.OK {
				t.Fatalf("Rank(%s; %d) = %s, %d", showCurves(l), c.Id, showLabels(rank), e)
			}
			for _, m := range all {
				want := slices.Index(orderAt(l, m), c.Id)
				if got, defined := movinglabel.At(rank, m); defined != (want >= 0) || defined && got != want {
					t.Fatalf("Rank(%s; %d) = %s: %d at %s", showCurves(l), c.Id, showLabels(rank), want, real.Print(m))
				}
			}
			for n := range len(l) + 2 {
				among, e := envelope.Among(l, c.Id, n)
				if e != api.OK || period.Check(among) != api.OK {
					t.Fatalf("Among(%s; %d; %d) = %s, %d", showCurves(l), c.Id, n, show(among), e)
				}
				for _, m := range all {
					place := slices.Index(orderAt(l, m), c.Id)
					if want := place >= 0 && place < n; period.Contains(among, m) != want {
						t.Fatalf("Among(%s; %d; %d) = %s: %v at %s", showCurves(l), c.Id, n, show(among), want, real.Print(m))
					}
				}
			}
		}
	})
}

func TestP19_5(t *testing.T) {
	for s, want := range map[string]string{
		"": "", "7: [0 9] 1": "", "1: [0 4] 0,1 | 2: [0 4] 4,-1": "2", "1: [0 4] 4,-4,1 | 2: [0 4] 0": "2", "1: [0 2] 0,0,1 | 2: [1 3] 2": "1 0+sqrt(2) 2", "3: [0 1] 0 | 5: [2 3] 0": "", "3: [0 1] 0 | 5: (1 3] 0": "1", "3: [0 1) 0 | 5: [1 3] 0": "1", "3: [0 1] 0 | 5: [1 3] 0": "1", "3: [0 1) 0; [1 1] 5; (1 2] 0": "", "3: [0 4] 0 | 5: [1 1] 0 | 7: [2 2] 1; (3 4) 8": "1 2 3 4",
		// The end of one is the beginning of the next one, though neither contains it.
		"3: [0 1) 0; (1 2] 0": "1", "3: [0 1) 0 | 5: (1 3] 0": "1",
	} {
		if got := envelope.Swaps(curves(s)); showReals(got) != want {
			t.Errorf("Swaps(%s) = %s; want %s", s, showReals(got), want)
		}
	}
	swaps := 0
	sets(func(l []envelope.Curve) {
		var want []api.Real
		orders := envelope.Orders(l)
		for k, o := range orders {
			if k > 0 && orders[k-1].In.To == o.In.From && !slices.Contains(want, o.In.From) {
				want = append(want, o.In.From)
			}
		}
		if got := envelope.Swaps(l); !slices.Equal(got, want) {
			t.Errorf("Swaps(%s) = %s; want %s", showCurves(l), showReals(got), showReals(want))
		}
		swaps += len(want)
	})
	if swaps < 1000 {
		t.Errorf("%d swaps only", swaps)
	}
}

// The value of the lower envelope is at most that of every curve, and equal to that of the curve it names.
func TestP19_6Least(t *testing.T) {
	sets(func(l []envelope.Curve) {
		who, value := envelope.Least(l)
		var all []api.Interval
		for _, c := range l {
			if above := movingnumber.AtMost(value, c.Units); !period.Equal(above.True, movingnumber.Domain(c.Units)) {
				t.Errorf("Least(%s) = %s is greater than that of %d", showCurves(l), showNumbers(value), c.Id)
			}
			equal := movingnumber.Equal(value, c.Units)
			if !period.Covers(equal.True, movinglabel.When(who, c.Id)) {
				t.Errorf("Least(%s) = %s and %s", showCurves(l), showLabels(who), showNumbers(value))
			}
			all = append(all, movingnumber.Domain(c.Units)...)
		}
		if domain := period.Normal(all); !period.Equal(movingnumber.Domain(value), domain) || !period.Equal(movinglabel.Domain(who), domain) {
			t.Errorf("Least(%s) = %s and %s", showCurves(l), showLabels(who), showNumbers(value))
		}
	})
}

// The envelopes for all n give each instant the ids of its order, each once, and their values do not decrease with n.
func TestP19_6Nth(t *testing.T) {
	sets(func(l []envelope.Curve) {
		times := map[int][]api.Interval{}
		var before []api.NumberUnit
		for n := range len(l) + 1 {
			who, value, e := envelope.Nth(l, n)
			if e != api.OK {
				t.Fatalf("Nth(%s; %d): %d", showCurves(l), n, e)
			}
			for _, u := range who {
				if during := []api.Interval{u.In}; !period.Overlaps(times[u.Label], during) {
					times[u.Label] = period.Union(times[u.Label], during)
				} else {
					t.Fatalf("%s: %d has several places during %s", showCurves(l), u.Label, show(during))
				}
			}
			if rises := movingnumber.AtMost(before, value); n > 0 && !period.Equal(rises.True, movingnumber.Domain(value)) {
				t.Errorf("%s: %s, and then %s", showCurves(l), showNumbers(before), showNumbers(value))
			}
			before = value
		}
		if len(before) > 0 {
			t.Errorf("%s: more places than curves", showCurves(l))
		}
		for _, c := range l {
			if !period.Equal(times[c.Id], movingnumber.Domain(c.Units)) {
				t.Errorf("%s: %d has a place during %s", showCurves(l), c.Id, show(times[c.Id]))
			}
		}
	})
}

func TestP19_6Moved(t *testing.T) {
	by := rat("-7/3")
	sets(func(l []envelope.Curve) {
		var higher, later []envelope.Curve
		for _, c := range l {
			constant := movingnumber.Constant(by, movingnumber.Domain(c.Units))
			higher = append(higher, envelope.Curve{Id: c.Id, Units: movingnumber.Add(c.Units, constant)})
			later = append(later, envelope.Curve{Id: c.Id, Units: movingnumber.Shift(c.Units, by)})
		}
		orders := envelope.Orders(l)
		if got := envelope.Orders(higher); showOrders(got) != showOrders(orders) {
			t.Errorf("Orders(%s) = %s; want %s", showCurves(higher), showOrders(got), showOrders(orders))
		}
		for k, o := range orders {
			orders[k].In = period.Shift([]api.Interval{o.In}, by)[0]
		}
		if got := envelope.Orders(later); showOrders(got) != showOrders(orders) {
			t.Errorf("Orders(%s) = %s; want %s", showCurves(later), showOrders(got), showOrders(orders))
		}
		who, value := envelope.Least(l)
		lastly, least := envelope.Least(later)
		if !movinglabel.Equal(lastly, movinglabel.Shift(who, by)) || !movingnumber.Same(least, movingnumber.Shift(value, by)) {
			t.Errorf("Least(%s) = %s and %s", showCurves(later), showLabels(lastly), showNumbers(least))
		}
		if got, want := envelope.Count(later), movinglabel.Shift(envelope.Count(l), by); !movinglabel.Equal(got, want) {
			t.Errorf("Count(%s) = %s; want %s", showCurves(later), showLabels(got), showLabels(want))
		}
		swaps := envelope.Swaps(l)
		for k := range swaps {
			swaps[k] = real.Shift(swaps[k], by)
		}
		if got := envelope.Swaps(later); !slices.Equal(got, swaps) {
			t.Errorf("Swaps(%s) = %s; want %s", showCurves(later), showReals(got), showReals(swaps))
		}
	})
}

// As many curves as there can be: tangents of a parabola, each of which is the greatest one for a time.
func TestP19Many(t *testing.T) {
	var l []envelope.Curve
	for k := range api.MaxObjects {
		// The tangent at k is 2*k*t - k*k; what is less is greater below.
		f := api.Quad{C0: real.FromInt(k * k).P, C1: real.FromInt(-2 * k).P}
		l = append(l, envelope.Curve{Id: 10 * (k + 1), Units: []api.NumberUnit{{In: in("[0 63]"), F: f}}})
	}
	if e := envelope.Check(l); e != api.OK {
		t.Fatal(e)
	}
	who, value := envelope.Least(l)
	if len(who) != api.MaxObjects || len(value) != api.MaxObjects || who[5] != (api.LabelUnit{In: in("(9/2 11/2]"), Label: 60}) {
		t.Errorf("Least = %s", showLabels(who))
	}
	first, least, e := envelope.Nth(l, 0)
	if e != api.OK || !slices.Equal(first, who) || !slices.Equal(least, value) {
		t.Errorf("Nth = %s and %s, %d", showLabels(first), showNumbers(least), e)
	}
	last, _, e := envelope.Nth(l, api.MaxObjects-1)
	if e != api.OK || showLabels(last) != "[0 63/2] 640; (63/2 63] 10" {
		t.Errorf("Nth = %s, %d", showLabels(last), e)
	}
	// Two of the tangents, at i and at k, meet at (i+k)/2.
	if swaps := envelope.Swaps(l); len(swaps) != 2*api.MaxObjects-3 {
		t.Errorf("%d swaps", len(swaps))
	}
	rank, e := envelope.Rank(l, 10)
	if e != api.OK || len(rank) != api.MaxObjects {
		t.Errorf("Rank = %s, %d", showLabels(rank), e)
	}
}

func TestArguments(t *testing.T) {
	l := curves("1: [0 4] 0,1; (4 5] 7 | 2: [0 4] 4,-1 | 6: [1 3] 1")
	before := showCurves(l)
	who, value := envelope.Least(l)
	clear(value[:cap(value)])
	if showLabels(who) != "[0 1] 1; (1 3) 6; [3 4] 2; (4 5] 1" {
		t.Errorf("Least = %s", showLabels(who))
	}
	clear(who[:cap(who)])
	for _, one := range l { // a list of one curve, too
		_, value := envelope.Least([]envelope.Curve{one})
		clear(value[:cap(value)])
		_, value, _ = envelope.Nth([]envelope.Curve{one}, 0)
		clear(value[:cap(value)])
	}
	who, value, _ = envelope.Nth(l, 1)
	clear(who[:cap(who)])
	clear(value[:cap(value)])
	orders := envelope.Orders(l)
	shown := showOrders(orders[1:])
	clear(orders[0].Ids[:cap(orders[0].Ids)])
	if showOrders(orders[1:]) != shown {
		t.Error("the ids of orders share memory")
	}
	clear(envelope.At(l, re("2")))
	rank, _ := envelope.Rank(l, 2)
	clear(rank[:cap(rank)])
	among, _ := envelope.Among(l, 1, 2)
	clear(among[:cap(among)])
	clear(envelope.Count(l))
	clear(envelope.Swaps(l))
	if after := showCurves(l); after != before {
		t.Errorf("the arguments are %s, not %s", after, before)
	}
}

// Nothing is specified for lists that are not right, but no function may panic or go on for ever.
func TestP1NotValid(t *testing.T) {
	ends := append(wrong(), reals("0 1 0+sqrt(2)")...)
	for k, x := range ends {
		for n, y := range ends {
			i := api.Interval{From: x, To: y, OpenFrom: k > n, OpenTo: k%2 == 0}
			f := api.Quad{C0: x.P, C1: y.R, C2: y.P}
			a := []api.NumberUnit{{In: i, F: f}, {In: api.Interval{From: y, To: x}}, {In: i}}
			b := []api.NumberUnit{{In: api.Interval{From: y, To: y}, F: f}, {In: i, F: f}}
			l := []envelope.Curve{{Id: 3, Units: a}, {Id: 3, Units: b}, {Id: -1, Units: a}, {}}
			envelope.Check(l)
			envelope.At(l, y)
			envelope.Orders(l)
			envelope.Least(l)
			envelope.Nth(l, 1)
			envelope.Rank(l, 3)
			envelope.Among(l, 3, 1)
			envelope.Count(l)
			envelope.Swaps(l)
		}
	}
	many := make([]envelope.Curve, 2*api.MaxObjects)
	for k := range many {
		many[k].Units = numbers("[0 1] 0,1")
	}
	envelope.Orders(many)
	envelope.Nth(many, 7)
}
