package route_test

import (
	"slices"
	"testing"

	"viator/api"
	"viator/draws"
	"viator/network"
	"viator/notation"
	"viator/rational"
	"viator/route"
	"viator/towns"
)

// way is the route of the examples.
const way = "0 5 1@0 5; 5 11 2@0 3"

func TestP24_1(t *testing.T) {
	n := town(towns.Example) // 1 from 1 to 2, 5 long; 2 from 2 to 3 only, 6 long; 3 from 3 to 1 only, 3 long
	for _, c := range []struct {
		s string
		e api.Errno
	}{
		{"", api.OK}, {way, api.OK}, {"0 5 1@5 0", api.OK}, {"0 5 1@5 0; 5 6 1@0 1; 9 10 2@3 3", api.OK}, {"-3 -1 2@0 6; -1 0 3@0 3; 0 1/2 1@0 5; 1/2 1 2@0 0", api.OK}, {"0 1 3@3 3; 1 2 1@0 0", api.OK}, {"0 1 1@1 2; 1 2 1@2 3", api.OK}, {"0 1 1@1 2; 2 3 1@3 3", api.OK}, {"0 1 2@6 6; 1 2 3@0 0", api.OK},
		{"0 0 1@0 0", api.ErrTime}, {"0 -1 1@0 0", api.ErrTime}, {"1/2 1/3 1@0 0", api.ErrTime}, {"1 1 9@0 7", api.ErrTime}, {"0 5 1@0 5; 5 5 1@5 5", api.ErrTime},
		{"5 11 2@0 3; 0 5 1@0 5", api.ErrOrder}, {"0 5 1@0 5; 4 5 1@0 5", api.ErrOrder}, {"0 5 1@0 5; 4999/1000 9 7@0 5", api.ErrOrder}, {"0 1 1@0 0; 3 4 1@0 0; 2 3 1@0 0", api.ErrOrder}, {"0 1 1@0 0; -2 -1 1@0 0", api.ErrOrder},
		{"0 1 9@0 0", api.ErrNotFound}, {"0 1 9@-1 7", api.ErrNotFound}, {"0 1 0@0 0", api.ErrNotFound}, {"0 1 1@0 6", api.ErrRange}, {"0 1 1@-1 1", api.ErrRange}, {"0 1 1@6 7", api.ErrRange}, {"0 1 2@0 61/10", api.ErrRange}, {"0 1 2@2 -1", api.ErrRange}, {"0 1 3@4 0", api.ErrRange},
		{"0 1 2@2 1", api.ErrDenied}, {"0 1 2@2 19/10", api.ErrDenied}, {"0 1 3@3 0", api.ErrDenied}, {"0 5 1@0 4; 5 6 2@2 1", api.ErrDenied},
		{"0 5 1@0 4; 5 11 2@0 3", api.ErrGap}, {"0 5 1@0 5; 5 6 1@4 5", api.ErrGap}, {"0 5 1@0 5; 5 6 2@1 5", api.ErrGap}, {"0 5 1@0 3; 5 6 3@3 3", api.ErrGap}, {"0 5 1@0 3; 5 6 2@3 4", api.ErrGap}, {"0 5 1@0 5; 5 6 1@5 5; 6 7 1@0 1", api.ErrGap},
		// The legs in order, and the errors of each one in order.
		{"0 5 1@0 4; 5 11 2@0 3; 1 0 1@0 0", api.ErrGap}, {"0 5 1@0 9; 1 0 1@0 0", api.ErrRange}, {"0 5 1@0 5; 4 6 9@0 0", api.ErrOrder}, {"0 5 1@0 5; 5 6 9@0 0", api.ErrNotFound}, {"0 5 1@0 5; 5 6 2@7 -1", api.ErrRange}, {"0 5 1@0 5; 5 6 2@3 1", api.ErrDenied},
	} {
		if e := route.Check(n, legs(c.s)); e != c.e {
			t.Errorf("Check(%s) = %d; want %d", c.s, e, c.e)
		}
	}
	everyRoute(func(n api.Network, l []route.Leg) {
		if e := route.Check(n, l); e != api.OK {
			t.Errorf("%s: Check(%s) = %d", showTown(n), show(l), e)
		}
	})
}

func TestP24_1Form(t *testing.T) {
	n := town(towns.Example)
	for _, x := range wrong() {
		for _, change := range []func(l *route.Leg){func(l *route.Leg) { l.From = x }, func(l *route.Leg) { l.To = x }, func(l *route.Leg) { l.A = x }, func(l *route.Leg) { l.B = x }} {
			for _, s := range []string{way, "7 8 1@0 5; 5 4 9@0 33", "-9 -8 1@0 0; 5 6 2@4 3"} {
				l := legs(s)
				change(&l[1])
				if e := route.Check(n, l); e != api.ErrForm {
					t.Errorf("Check(%v) = %d", l, e)
				}
			}
			l := legs("3 2 1@0 5; 5 11 2@0 3")
			change(&l[1])
			if e := route.Check(n, l); e != api.ErrTime {
				t.Errorf("Check(%v) = %d", l, e)
			}
		}
	}
}

func TestP24_1Limit(t *testing.T) {
	n := town(towns.Example)
	var l []route.Leg
	for k := range api.MaxUnits {
		l = append(l, route.Leg{From: rational.FromInt(k), To: rational.FromInt(k + 1), Road: 1})
	}
	if e := route.Check(n, l); e != api.OK {
		t.Errorf("Check of %d legs = %d", len(l), e)
	}
	if e := route.Check(n, append(l, route.Leg{From: rat("1000"), To: rat("1001"), Road: 1})); e != api.ErrLimit {
		t.Errorf("Check of %d legs = %d", len(l)+1, e)
	}
	if e := route.Check(n, make([]route.Leg, api.MaxUnits+1)); e != api.ErrLimit {
		t.Errorf("Check of too many legs = %d", e)
	}
}

// A leg of a valid route that is changed is valid, or has the error that the change leads to.
func TestP24_1Changes(t *testing.T) {
	count := map[api.Errno]int{}
	everyRoute(func(n api.Network, l []route.Leg) {
		for k := range l {
			for _, change := range []func(leg *route.Leg){func(leg *route.Leg) { leg.A, leg.B = leg.B, leg.A }, func(leg *route.Leg) { leg.Road++ }, func(leg *route.Leg) { leg.B = rational.Add(leg.B, rat("1/3")) }, func(leg *route.Leg) { leg.From = rational.Sub(leg.From, rat("1/3")) }, func(leg *route.Leg) { leg.To = rational.Sub(leg.To, rat("1/3")) }, func(leg *route.Leg) { leg.From, leg.To = leg.To, leg.From }} {
				changed := slices.Clone(l)
				change(&changed[k])
				e, want := route.Check(n, changed), check(n, changed)
				if e != want {
					t.Errorf("%s: Check(%s) = %d; want %d", showTown(n), show(changed), e, want)
				}
				count[want]++
			}
		}
	})
	for _, e := range []api.Errno{api.OK, api.ErrTime, api.ErrOrder, api.ErrNotFound, api.ErrRange, api.ErrDenied, api.ErrGap} {
		if count[e] < 100 {
			t.Errorf("the error %d occurs %d times", e, count[e])
		}
	}
}

// check returns the error of legs with canonical numbers by the words of the chapter.
func check(n api.Network, l []route.Leg) api.Errno {
	for k, leg := range l {
		if rational.Compare(leg.From, leg.To) >= 0 {
			return api.ErrTime
		}
		if k > 0 && rational.Compare(leg.From, l[k-1].To) < 0 {
			return api.ErrOrder
		}
		if e := network.CheckPlace(n, first(leg)); e != api.OK {
			return e
		}
		if e := network.CheckPlace(n, last(leg)); e != api.OK {
			return e
		}
		if road, _ := network.Road(n, leg.Road); road.OneWay && rational.Compare(leg.A, leg.B) > 0 {
			return api.ErrDenied
		}
		if k > 0 && leg.From == l[k-1].To && !network.Same(n, last(l[k-1]), first(leg)) {
			return api.ErrGap
		}
	}
	return api.OK
}

func TestP24_1NormalExamples(t *testing.T) {
	for _, c := range []struct{ s, want string }{
		{"", ""}, {way, way}, {"0 2 1@0 2; 2 5 1@2 5; 5 11 2@0 3", way}, {"0 2 1@0 2; 2 3 1@2 3; 3 5 1@3 5; 5 6 2@0 1/2; 6 11 2@1/2 3", way}, {"0 2 1@0 2; 2 5 1@2 4", "0 2 1@0 2; 2 5 1@2 4"}, {"0 2 1@0 2; 3 5 1@2 4", "0 2 1@0 2; 3 5 1@2 4"}, {"0 2 1@0 2; 2 4 1@2 0", "0 2 1@0 2; 2 4 1@2 0"}, {"0 2 1@3 3; 2 7/2 1@3 3", "0 7/2 1@3 3"}, {"0 2 1@5 5; 2 4 2@0 0", "0 2 1@5 5; 2 4 2@0 0"}, {"0 2 1@5 5; 2 4 1@5 5; 4 5 2@0 0; 5 6 2@0 0", "0 4 1@5 5; 4 6 2@0 0"}, {"0 2 1@5 3; 2 3 1@3 2", "0 3 1@5 2"},
	} {
		if l := route.Normal(legs(c.s)); show(l) != c.want {
			t.Errorf("Normal(%s) = %s; want %s", c.s, show(l), c.want)
		}
	}
}

// Normal joins what is one, and changes no position.
func TestP24_1Normal(t *testing.T) {
	shorter := 0
	everyRoute(func(n api.Network, l []route.Leg) {
		normal := route.Normal(l)
		if want := joined(l); !slices.Equal(normal, want) || route.Check(n, normal) != api.OK {
			t.Errorf("Normal(%s) = %s; want %s", show(l), show(normal), show(want))
		}
		if again := route.Normal(normal); !slices.Equal(again, normal) {
			t.Errorf("Normal(%s) = %s", show(normal), show(again))
		}
		for _, at := range times(l) {
			before, k := position(l, at)
			if after, j := position(normal, at); after != before || (k < 0) != (j < 0) {
				t.Errorf("Normal(%s) = %s has at %s the position %s", show(l), show(normal), rational.Print(at), showPlace(after))
			}
		}
		if len(normal) < len(l) {
			shorter++
		}
	})
	if shorter < 100 {
		t.Errorf("in %d routes legs are joined", shorter)
	}
}

func TestP24_2Examples(t *testing.T) {
	const parallel = "1 0 0, 2 1 0, 3 9 0 | 1 1-2 3, 2 2-1 2, 3 1>2 1, 4 1-2 4, 5 2>1 2, 6 3-1 9, 8 1>2 1"
	for _, c := range []struct {
		n, s, want string
		e          api.Errno
	}{
		{towns.Example, "0 1@0; 5 1@5; 11 2@3", way, api.OK}, {towns.Example, "", "", api.OK}, {towns.Example, "7 1@0", "", api.OK}, {towns.Example, "0 1@0; 2 3@3", "0 2 1@0 0", api.OK}, {towns.Example, "0 3@3; 2 3@3; 5 1@5/2", "0 2 1@0 0; 2 5 1@0 5/2", api.OK}, {towns.Example, "0 1@5; 2 1@3; 3 1@2; 4 1@1/2", "0 3 1@5 2; 3 4 1@2 1/2", api.OK}, {towns.Example, "0 2@1; 1 2@1; 3 2@1; 4 2@6; 5 3@2", "0 3 2@1 1; 3 4 2@1 6; 4 5 3@0 2", api.OK}, {towns.Example, "0 2@6; 1 3@0; 2 2@6", "0 2 2@6 6", api.OK},
		{parallel, "0 1@0; 1 1@3; 2 1@0", "0 1 3@0 1; 1 2 2@0 2", api.OK}, {parallel, "0 6@9; 1 4@4; 2 6@9; 3 1@1; 4 6@9", "0 1 3@0 1; 1 2 2@0 2; 2 3 1@0 1; 3 4 1@1 0", api.OK}, {parallel, "0 8@0; 1 8@1/2; 2 8@1", "0 2 8@0 1", api.OK}, {parallel, "0 8@0; 1 6@9; 2 6@8", "0 1 1@0 0; 1 2 6@9 8", api.OK}, {parallel, "0 4@1; 1 4@3; 2 4@4; 3 4@4; 4 4@1", "0 1 4@1 3; 1 2 4@3 4; 2 3 1@3 3; 3 4 4@4 1", api.OK},
		{towns.Example, "0 2@3; 1 1@5", "", api.ErrUnreachable}, {towns.Example, "0 2@3; 1 2@1", "", api.ErrUnreachable}, {towns.Example, "0 1@1; 1 2@1", "", api.ErrUnreachable}, {towns.Example, "0 2@6; 1 2@0", "", api.ErrUnreachable}, {towns.Example, "0 1@0; 1 3@1", "", api.ErrUnreachable},
		{towns.Example, "0 1@0; 0 1@0", "", api.ErrTime}, {towns.Example, "0 1@0; -1 1@2", "", api.ErrTime}, {towns.Example, "1 2@3; 1 2@1", "", api.ErrTime}, {towns.Example, "0 1@0; 2 1@1; 1 1@2", "", api.ErrTime},
		{towns.Example, "0 4@0", "", api.ErrNotFound}, {towns.Example, "0 1@6", "", api.ErrRange}, {towns.Example, "0 1@0; 0 1@-1", "", api.ErrRange}, {towns.Example, "0 1@0; 1 1@2; 0 7@-1", "", api.ErrNotFound}, {towns.Example, "0 2@3; 1 2@1; 0 1@0", "", api.ErrUnreachable}, {"|", "", "", api.OK}, {"|", "0 1@0", "", api.ErrNotFound},
	} {
		if l, e := route.FromStops(town(c.n), stops(c.s)); e != c.e || show(l) != c.want || e != api.OK && l != nil {
			t.Errorf("%s: FromStops(%s) = %s, %d; want %s, %d", c.n, c.s, show(l), e, c.want, c.e)
		}
	}
}

func TestP24_2Errors(t *testing.T) {
	n := town(towns.Example)
	for _, x := range wrong() {
		for _, c := range []struct {
			l []route.Stop
			e api.Errno
		}{
			{[]route.Stop{{Time: x, Place: place("1@0")}}, api.ErrForm}, {[]route.Stop{{Time: x, Place: place("9@0")}}, api.ErrForm}, {[]route.Stop{{Place: api.Place{Road: 1, Offset: x}}}, api.ErrForm}, {[]route.Stop{{Place: api.Place{Road: 9, Offset: x}}}, api.ErrNotFound}, {append(stops("0 1@0"), route.Stop{Time: x, Place: place("1@0")}), api.ErrForm}, {append(stops("0 1@7"), route.Stop{Time: x, Place: place("1@0")}), api.ErrRange}, {append(stops("0 1@0"), route.Stop{Place: api.Place{Road: 1, Offset: x}}), api.ErrForm},
		} {
			if l, e := route.FromStops(n, c.l); e != c.e || l != nil {
				t.Errorf("FromStops(%v) = %s, %d; want %d", c.l, show(l), e, c.e)
			}
		}
	}
	var many []route.Stop
	for k := range api.MaxUnits {
		many = append(many, route.Stop{Time: rational.FromInt(k), Place: api.Place{Road: 1, Offset: rational.FromInt(k % 2)}})
	}
	if l, e := route.FromStops(n, many); e != api.OK || len(l) != len(many)-1 {
		t.Errorf("FromStops of %d stops = %d legs, %d", len(many), len(l), e)
	}
	for _, l := range [][]route.Stop{append(many, route.Stop{Time: rat("1000"), Place: place("1@0")}), make([]route.Stop, api.MaxUnits+1)} {
		if legs, e := route.FromStops(n, l); e != api.ErrLimit || legs != nil {
			t.Errorf("FromStops of %d stops = %d legs, %d", len(l), len(legs), e)
		}
	}
}

// along returns the leg between two stops by the words of the chapter, and whether there is one.
func along(n api.Network, from, to route.Stop) (route.Leg, bool) {
	leg := route.Leg{From: from.Time, To: to.Time}
	if network.Same(n, from.Place, to.Place) {
		normal, _ := network.Normal(n, from.Place)
		leg.Road, leg.A, leg.B = normal.Road, normal.Offset, normal.Offset
		return leg, true
	}
	ahead, found := network.Ahead(n, from.Place, to.Place)
	if !found {
		return route.Leg{}, false
	}
	for _, r := range n.Roads {
		for _, p := range towns.Places(n) {
			for _, q := range towns.Places(n) {
				if p.Road != r.Id || q.Road != r.Id || !network.Same(n, p, from.Place) || !network.Same(n, q, to.Place) {
					continue
				}
				length := rational.Sub(q.Offset, p.Offset)
				if rational.Abs(length) == ahead && (!r.OneWay || rational.Sign(length) > 0) {
					leg.Road, leg.A, leg.B = r.Id, p.Offset, q.Offset
					return leg, true
				}
			}
		}
	}
	return route.Leg{}, false
}

func TestP24_2(t *testing.T) {
	d := &driver{draws.From(5)}
	for _, n := range towns.Networks() {
		all := towns.Places(n)
		for range 12 {
			if len(all) == 0 {
				break
			}
			list := []route.Stop{{Time: rational.FromInt(d.draw(5)), Place: all[d.draw(len(all))]}}
			var want []route.Leg
			for range 5 {
				before := list[len(list)-1]
				next := route.Stop{Time: rational.Add(before.Time, d.fraction()), Place: all[d.draw(len(all))]}
				leg, found := along(n, before, next)
				if !found {
					if l, e := route.FromStops(n, append(slices.Clone(list), next)); e != api.ErrUnreachable || l != nil {
						t.Errorf("%s: FromStops(%s) = %s, %d", showTown(n), showStops(append(list, next)), show(l), e)
					}
					continue
				}
				list, want = append(list, next), append(want, leg)
			}
			l, e := route.FromStops(n, list)
			if e != api.OK || !slices.Equal(l, joined(want)) || route.Check(n, l) != api.OK {
				t.Errorf("%s: FromStops(%s) = %s, %d; want %s", showTown(n), showStops(list), show(l), e, show(joined(want)))
			}
			for _, s := range list {
				if p, found := route.At(n, l, s.Time); len(list) > 1 && (!found || !network.Same(n, p, s.Place)) {
					t.Errorf("%s: FromStops(%s) = %s is at %s at %s", showTown(n), showStops(list), show(l), showPlace(p), rational.Print(s.Time))
				}
			}
		}
	}
}

func TestP24_5Examples(t *testing.T) {
	const back = "0 5 1@0 5; 5 7 1@5 5; 9 10 1@5/2 1/2"
	for _, c := range []struct{ s, t, want string }{
		{way, "0", "0"}, {way, "-3", "0"}, {way, "5/2", "5/2"}, {way, "5", "5"}, {way, "7", "6"}, {way, "11", "8"}, {way, "1000", "8"}, {back, "4", "4"}, {back, "5", "5"}, {back, "6", "5"}, {back, "8", "5"}, {back, "9", "5"}, {back, "19/2", "6"}, {back, "10", "7"}, {back, "11", "7"}, {"", "3", "0"},
	} {
		if got := route.Passed(legs(c.s), rat(c.t)); got != rat(c.want) {
			t.Errorf("Passed(%s; %s) = %s; want %s", c.s, c.t, rational.Print(got), c.want)
		}
	}
	for s, want := range map[string]string{way: "8", back: "7", "": "0", "0 1 1@5 0": "5", "0 1 1@1/2 1/3; 2 3 1@2 1": "7/6"} {
		if got := route.Length(legs(s)); got != rat(want) {
			t.Errorf("Length(%s) = %s", s, rational.Print(got))
		}
	}
}

func TestP24_5(t *testing.T) {
	everyRoute(func(n api.Network, l []route.Leg) {
		sum := api.Rat{}
		for _, leg := range l {
			sum = rational.Add(sum, rational.Abs(rational.Sub(leg.A, leg.B)))
		}
		if got := route.Length(l); got != sum {
			t.Errorf("Length(%s) = %s; want %s", show(l), rational.Print(got), rational.Print(sum))
		}
		before := api.Rat{}
		for _, at := range times(l) {
			want := api.Rat{}
			for _, leg := range l {
				switch {
				case rational.Compare(leg.To, at) <= 0:
					want = rational.Add(want, rational.Abs(rational.Sub(leg.B, leg.A)))
				case rational.Compare(leg.From, at) < 0:
					p, _ := position([]route.Leg{leg}, at)
					want = rational.Add(want, rational.Abs(rational.Sub(p.Offset, leg.A)))
				}
			}
			got := route.Passed(l, at)
			if got != want || rational.Compare(got, before) < 0 {
				t.Errorf("Passed(%s; %s) = %s; want %s", show(l), rational.Print(at), rational.Print(got), rational.Print(want))
			}
			before = got
		}
		if before != sum {
			t.Errorf("Passed(%s) is %s behind the end; want %s", show(l), rational.Print(before), rational.Print(sum))
		}
	})
}

func TestP24_6RestrictExamples(t *testing.T) {
	const back = "0 5 1@0 5; 5 7 1@5 5; 9 10 1@5/2 1/2"
	for _, c := range []struct{ s, from, to, want string }{
		{way, "4", "7", "4 5 1@4 5; 5 7 2@0 1"}, {way, "7", "7", ""}, {way, "7", "6", ""}, {way, "11", "0", ""}, {way, "-5", "50", way}, {way, "0", "11", way}, {way, "5", "11", "5 11 2@0 3"}, {way, "0", "5", "0 5 1@0 5"}, {way, "11", "12", ""}, {way, "-2", "0", ""}, {way, "5/2", "3", "5/2 3 1@5/2 3"}, {way, "10", "30", "10 11 2@5/2 3"}, {back, "6", "19/2", "6 7 1@5 5; 9 19/2 1@5/2 3/2"}, {back, "7", "9", ""}, {back, "15/2", "8", ""}, {"0 2 1@0 2; 2 5 1@2 5", "1", "3", "1 3 1@1 3"}, {"", "0", "1", ""},
	} {
		if got := route.Restrict(legs(c.s), rat(c.from), rat(c.to)); show(got) != c.want {
			t.Errorf("Restrict(%s; %s, %s) = %s; want %s", c.s, c.from, c.to, show(got), c.want)
		}
	}
}

func TestP24_6Restrict(t *testing.T) {
	everyRoute(func(n api.Network, l []route.Leg) {
		all := times(l)
		for k := len(l) % 4; k < len(all); k += 7 {
			for j := k % 5; j < len(all); j += 5 {
				from, to := all[k], all[j]
				got := route.Restrict(l, from, to)
				if e := route.Check(n, got); e != api.OK || !slices.Equal(got, joined(got)) {
					t.Errorf("Restrict(%s; %s, %s) = %s: %d", show(l), rational.Print(from), rational.Print(to), show(got), e)
				}
				if rational.Compare(from, to) >= 0 && len(got) > 0 {
					t.Errorf("Restrict(%s; %s, %s) = %s", show(l), rational.Print(from), rational.Print(to), show(got))
				}
				checkRestricted(t, l, got, from, to)
			}
		}
	})
}

// checkRestricted compares the positions of a part with those of the route: at its ends the leg that gives the position can be another one, or be left out.
func checkRestricted(t *testing.T, l, part []route.Leg, from, to api.Rat) {
	t.Helper()
	for _, at := range times(l) {
		want, k := position(l, at)
		within := k >= 0 && rational.Compare(from, at) < 0 && rational.Compare(at, to) < 0
		got, j := position(part, at)
		outside := rational.Compare(at, from) < 0 || rational.Compare(to, at) < 0
		if within && got != want || outside && j >= 0 {
			t.Errorf("Restrict(%s; %s, %s) = %s is at %s at %s", show(l), rational.Print(from), rational.Print(to), show(part), showPlace(got), rational.Print(at))
		}
	}
}

func TestP24_7Arguments(t *testing.T) {
	n, l, s := town(towns.Example), legs("0 2 1@0 2; 2 5 1@2 5; 5 11 2@0 3"), stops("0 1@0; 5 1@5; 11 2@3")
	l, s = slices.Grow(l, 9), slices.Grow(s, 9)
	before := show(l)
	normal, restricted := route.Normal(l), route.Restrict(l, rat("0"), rat("11"))
	made, _ := route.FromStops(n, s)
	p, r := route.Moving(n, l), route.Roads(l)
	shownP, shownR := notation.ShowPointUnits(p), notation.ShowLabelUnits(r)
	lifted, _ := route.Lift(n, p, r)
	for _, list := range [][]route.Leg{normal, restricted, made, lifted} {
		clear(list[:cap(list)])
	}
	nodes := route.Nodes(n, l)
	clear(nodes[:cap(nodes)])
	route.Check(n, l)
	route.Fast(n, l)
	route.Passed(l, rat("3"))
	if show(l) != before || showStops(s) != "0 1@0; 5 1@5; 11 2@3" || showTown(n) != towns.Example || notation.ShowPointUnits(p) != shownP || notation.ShowLabelUnits(r) != shownR {
		t.Errorf("arguments: %s, %s, %s", show(l), showStops(s), showTown(n))
	}
}
