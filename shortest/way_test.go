package shortest_test

import (
	"slices"
	"testing"

	"viator/api"
	"viator/network"
	"viator/notation"
	"viator/plane"
	"viator/rational"
	"viator/shortest"
	"viator/towns"
)

func TestP21_4Examples(t *testing.T) {
	const (
		parallel = "1 0 0, 2 1 0 | 1 1-2 3, 2 2-1 1, 3 1-2 1, 4 1-2 4"
		ring     = "1 0 0, 2 0 0, 3 0 0 | 5 1-2 2, 6 2-3 2, 7 3-1 2"
	)
	for _, c := range []struct{ s, want string }{
		{lonely, "2@1 1@2: 2 1 6, 3 0 3, 1 0 2 = 10"}, {lonely, "1@4 1@1: 1 4 1 = 3"}, {lonely, "2@4 2@1: 2 4 6, 3 0 3, 1 0 5, 2 0 1 = 11"}, {lonely, "1@5 2@0: = 0"}, {lonely, "1@2 3@3: 1 2 0 = 2"}, {lonely, "3@1 2@2: 3 1 3, 1 0 5, 2 0 2 = 9"}, {lonely, "2@1/3 2@1/3: = 0"}, {lonely, "3@3 1@0: = 0"}, {lonely, "2@6 2@0: 3 0 3, 1 0 5 = 8"}, {lonely, "1@0 3@0: 1 0 5, 2 0 6 = 11"}, {lonely, "2@1/3 3@0: 2 1/3 6 = 17/3"},
		// A way round is shorter, as long, or longer; the way along a single road comes first.
		{parallel, "1@0 1@3: 2 1 0 = 1"}, {parallel, "1@3 1@0: 2 0 1 = 1"}, {parallel, "4@1/2 4@7/2: 4 1/2 0, 2 1 0, 4 4 7/2 = 2"}, {parallel, "4@1 4@7/2: 4 1 7/2 = 5/2"}, {parallel, "1@1/2 1@5/2: 1 1/2 5/2 = 2"}, {parallel, "1@0 1@5/2: 2 1 0, 1 3 5/2 = 3/2"}, {parallel, "1@0 1@2: 1 0 2 = 2"}, {parallel, "4@2 1@2: 4 2 4, 1 3 2 = 3"}, {parallel, "4@2 1@1: 4 2 0, 1 0 1 = 3"}, {parallel, "4@2 1@3/2: 4 2 0, 1 0 3/2 = 7/2"},
		// Of several pairs of nodes, the list of nodes decides.
		{ring, "5@1 7@1: 5 1 0, 7 2 1 = 2"}, {ring, "5@1 6@1: 5 1 2, 6 0 1 = 2"}, {ring, "6@1 7@2: 6 1 0, 5 2 0 = 3"}, {ring, "7@2 6@1: 5 0 2, 6 0 1 = 3"}, {ring, "5@1 7@0: 5 1 0, 7 2 0 = 3"}, {ring, "6@1/2 7@3/2: 6 1/2 0, 5 2 0, 7 2 3/2 = 3"}, {ring, "6@3/2 7@3/2: 6 3/2 2, 7 0 3/2 = 2"},
	} {
		want := way(c.want)
		if w, e := shortest.Between(town(c.s), want.From, want.To); e != api.OK || showWay(w) != c.want {
			t.Errorf("%s: %s, %d; want %s", c.s, showWay(w), e, c.want)
		}
	}
}

func TestP21_4Errors(t *testing.T) {
	for _, c := range []struct {
		s, p, q string
		e       api.Errno
	}{
		{lonely, "1@6", "2@2", api.ErrRange}, {lonely, "1@1", "7@2", api.ErrNotFound}, {lonely, "7@1", "7@2", api.ErrNotFound}, {lonely, "1@-1", "7@2", api.ErrRange}, {lonely, "7@2", "1@-1", api.ErrNotFound}, {lonely, "1@1", "1@11/2", api.ErrRange},
		{"1 0 0, 2 0 0 | 5 1>2 4", "5@2", "5@1", api.ErrUnreachable}, {"1 0 0, 2 0 0 | 5 1>2 4", "5@4", "5@0", api.ErrUnreachable}, {"1 0 0, 2 0 0, 3 0 0, 4 0 0 | 5 1-2 4, 6 3-4 4", "5@2", "6@2", api.ErrUnreachable}, {"1 0 0, 2 0 0, 3 0 0 | 5 1-2 4, 6 3>2 4", "5@2", "6@2", api.ErrUnreachable}, {"1 0 0, 2 0 0 | 5 1>2 4", "5@2", "5@5", api.ErrRange},
	} {
		if w, e := shortest.Between(town(c.s), place(c.p), place(c.q)); e != c.e || showWay(w) != "0@0 0@0: = 0" {
			t.Errorf("%s: Between(%s, %s) = %s, %d", c.s, c.p, c.q, showWay(w), e)
		}
	}
	n := town(lonely)
	for _, x := range notation.Wrong() {
		wrong := api.Place{Road: 1, Offset: x.P}
		if rational.Check(x.P) == api.OK {
			continue
		}
		if _, e := shortest.Between(n, wrong, place("7@0")); e != api.ErrForm {
			t.Errorf("Between(%v, 7@0): %d", wrong, e)
		}
		if _, e := shortest.Between(n, place("1@6"), wrong); e != api.ErrRange {
			t.Errorf("Between(1@6, %v): %d", wrong, e)
		}
		if _, e := shortest.Between(n, place("1@1"), wrong); e != api.ErrForm {
			t.Errorf("Between(1@1, %v): %d", wrong, e)
		}
	}
}

func TestP21_4(t *testing.T) {
	least := map[string]map[[2]int]shortest.Route{}
	pairs(func(n api.Network, p, q api.Place, w shortest.Way, e api.Errno) {
		name := showTown(n)
		if least[name] == nil {
			least[name] = routes(n)
		}
		want, found := between(n, least[name], p, q)
		if found != (e == api.OK) || !found && e != api.ErrUnreachable || showWay(w) != showWay(want) {
			t.Errorf("%s: %s, %d; want %s", name, showWay(w), e, showWay(want))
		}
	})
}

// The lengths are those that steps of one half find.
func TestP21_4Lengths(t *testing.T) {
	for _, n := range towns.Networks() {
		for _, p := range towns.Places(n) {
			lengths := towns.Lengths(n, n.Roads, p)
			for _, q := range towns.Places(n) {
				w, e := shortest.Between(n, p, q)
				if length, found := lengths[q]; found != (e == api.OK) || w.Length != length {
					t.Errorf("%s: Between(%s, %s) = %s, %d", showTown(n), showPlace(p), showPlace(q), showWay(w), e)
				}
			}
		}
	}
}

func TestP21_5Examples(t *testing.T) {
	n := town(lonely)
	for _, c := range []struct {
		s string
		e api.Errno
	}{
		{"2@1 1@2: 2 1 6, 3 0 3, 1 0 2 = 10", api.OK}, {"1@5 2@0: = 0", api.OK}, {"1@5 2@0: 1 5 0, 1 0 5 = 10", api.OK}, {"1@1 1@2: 1 1 3, 1 3 3/2, 1 3/2 2 = 4", api.OK}, {"3@3 3@2: 1 0 5, 2 0 1, 2 1 6, 3 0 2 = 13", api.OK}, {"1@0 1@5: 1 0 5 = 5", api.OK}, {"3@3 2@0: 1 0 5 = 5", api.OK},
		{"8@1 7@2: = 0", api.ErrNotFound}, {"1@6 7@2: = 0", api.ErrRange}, {"1@1 7@2: = 0", api.ErrNotFound}, {"1@1 1@-1: 8 0 0 = 0", api.ErrRange},
		{"1@1 1@2: 8 1 1 = 1", api.ErrNotFound}, {"1@1 1@2: 1 -1 -1 = 1", api.ErrRange}, {"1@1 1@2: 1 1 6 = 1", api.ErrRange}, {"2@1 2@2: 2 7 -1 = 1", api.ErrRange},
		{"1@1 1@2: 1 1 1, 1 1 2 = 1", api.ErrZero}, {"1@1 1@1: 1 1 1 = 0", api.ErrZero}, {"1@1 1@2: 1 2 2 = 5", api.ErrZero}, {"2@1 2@2: 2 3 3 = 1", api.ErrZero},
		{"2@2 2@1: 2 2 1 = 1", api.ErrDenied}, {"1@1 1@2: 2 2 1 = 1", api.ErrDenied}, {"3@3 3@0: 3 3 0 = 3", api.ErrDenied},
		{"1@1 1@2: 1 0 2 = 2", api.ErrGap}, {"2@1 1@2: 2 2 6, 3 0 3, 1 0 2 = 9", api.ErrGap}, {"2@1 1@2: 2 1 6, 3 1 3, 1 0 2 = 9", api.ErrGap}, {"2@1 1@2: 2 1 5, 3 0 3, 1 0 2 = 9", api.ErrGap}, {"2@1 1@2: 2 1 6, 3 0 3 = 8", api.ErrGap}, {"1@1 1@2: 1 1 3 = 2", api.ErrGap}, {"1@1 1@2: = 0", api.ErrGap}, {"1@1 1@2: = 1", api.ErrGap}, {"1@5 1@0: 2 0 6 = 6", api.ErrGap},
		{"2@1 1@2: 2 1 6, 3 0 3, 1 0 2 = 9", api.ErrConflict}, {"1@4 1@1: 1 4 1 = -3", api.ErrConflict}, {"1@5 2@0: = 1", api.ErrConflict}, {"1@5 2@0: = -1", api.ErrConflict}, {"1@1 1@2: 1 1 3, 1 3 2 = 1", api.ErrConflict},
		// The legs in order, and for each one the errors in order; then where it ends, and its length.
		{"1@1 1@2: 1 0 3, 8 0 0 = 1", api.ErrGap}, {"1@1 1@2: 1 1 3, 8 0 0 = 1", api.ErrNotFound}, {"1@1 1@2: 2 3 2, 8 0 0 = 1", api.ErrDenied}, {"1@1 1@2: 1 1 3, 2 3 2 = 1", api.ErrDenied}, {"1@1 1@2: 1 2 2, 2 3 2 = 1", api.ErrZero}, {"1@1 1@2: 1 1 4 = 9", api.ErrGap},
	} {
		if e := shortest.CheckWay(n, way(c.s)); e != c.e {
			t.Errorf("CheckWay(%s) = %d; want %d", c.s, e, c.e)
		}
	}
}

// A least way is accepted; one of which something is changed is so only if it can still be travelled.
func TestP21_5(t *testing.T) {
	denied := 0
	pairs(func(n api.Network, p, q api.Place, w shortest.Way, e api.Errno) {
		if e != api.OK {
			return
		}
		check := func(v shortest.Way, want api.Errno) {
			if e := shortest.CheckWay(n, v); e != want {
				t.Errorf("%s: CheckWay(%s) = %d; want %d", showTown(n), showWay(v), e, want)
			}
		}
		check(w, api.OK)
		longer := w
		longer.Length = rational.Add(w.Length, rat("1/3"))
		check(longer, api.ErrConflict)
		if len(w.Legs) == 0 {
			return
		}
		shorter := w
		shorter.Legs = w.Legs[:len(w.Legs)-1]
		check(shorter, api.ErrGap)
		shorter.Legs = w.Legs[1:]
		check(shorter, api.ErrGap)
		back := shortest.Way{From: q, To: p, Length: w.Length}
		want := api.OK
		for _, l := range slices.Backward(w.Legs) {
			back.Legs = append(back.Legs, shortest.Leg{Road: l.Road, From: l.To, To: l.From})
			if road, _ := network.Road(n, l.Road); road.OneWay {
				want = api.ErrDenied
			}
		}
		check(back, want)
		if want != api.OK {
			denied++
		}
	})
	if denied < 1000 {
		t.Errorf("%d ways cannot be travelled back", denied)
	}
}

func TestP21_6Examples(t *testing.T) {
	n := town(lonely)
	const round = "2@1 1@2: 2 1 6, 3 0 3, 1 0 2 = 10"
	for _, c := range []struct {
		s, length, want string
		e               api.Errno
	}{
		{round, "0", "2@1", api.OK}, {round, "2", "2@3", api.OK}, {round, "5", "2@6", api.OK}, {round, "16/3", "3@1/3", api.OK}, {round, "8", "1@0", api.OK}, {round, "9", "1@1", api.OK}, {round, "10", "1@2", api.OK}, {round, "11", "0@0", api.ErrRange}, {round, "-1", "0@0", api.ErrRange}, {round, "-1/9", "0@0", api.ErrRange}, {round, "91/9", "0@0", api.ErrRange},
		{"1@4 1@1: 1 4 1 = 3", "1/2", "1@7/2", api.OK}, {"1@4 1@1: 1 4 1 = 3", "3", "1@1", api.OK}, {"3@3 2@0: 1 0 5 = 5", "0", "1@0", api.OK}, {"3@3 2@0: 1 0 5 = 5", "5", "1@5", api.OK}, {"2@0 3@3: 1 5 0 = 5", "0", "1@5", api.OK}, {"2@0 3@3: 1 5 0 = 5", "5", "1@0", api.OK},
		{"2@0 1@5: = 0", "0", "1@5", api.OK}, {"1@0 3@3: = 0", "0", "1@0", api.OK}, {"2@1 2@1: = 0", "0", "2@1", api.OK}, {"2@1 2@1: = 0", "1", "0@0", api.ErrRange}, {"1@1 1@2: 1 1 3, 1 3 3/2, 1 3/2 2 = 4", "5/2", "1@5/2", api.OK}, {"1@1 1@2: 1 1 3, 1 3 3/2, 1 3/2 2 = 4", "15/4", "1@7/4", api.OK},
	} {
		if p, e := shortest.Along(n, way(c.s), rat(c.length)); e != c.e || showPlace(p) != c.want {
			t.Errorf("Along(%s; %s) = %s, %d", c.s, c.length, showPlace(p), e)
		}
	}
}

// The position on a least way is as far from its beginning as the length that was travelled, and from its end as what is left of it.
func TestP21_6(t *testing.T) {
	parts := []string{"0", "1/2", "1/3", "1", "4/7"}
	count := 0
	pairs(func(n api.Network, p, q api.Place, w shortest.Way, e api.Errno) {
		if e != api.OK {
			return
		}
		length := rational.Mul(w.Length, rat(parts[count%len(parts)]))
		count++
		at, e := shortest.Along(n, w, length)
		normal, f := network.Normal(n, at)
		if e != api.OK || f != api.OK || normal != at {
			t.Errorf("%s: Along(%s; %s) = %s, %d", showTown(n), showWay(w), rational.Print(length), showPlace(at), e)
		}
		first, _ := shortest.Between(n, p, at)
		second, _ := shortest.Between(n, at, q)
		if first.Length != length || rational.Add(first.Length, second.Length) != w.Length {
			t.Errorf("%s: Along(%s; %s) = %s: %s and %s", showTown(n), showWay(w), rational.Print(length), showPlace(at), showWay(first), showWay(second))
		}
	})
}

func TestP21_7Reversed(t *testing.T) {
	pairs(func(n api.Network, p, q api.Place, w shortest.Way, e api.Errno) {
		from, _ := network.Mirror(n, q)
		to, _ := network.Mirror(n, p)
		if back, f := shortest.Between(network.Reverse(n), from, to); f != e || back.Length != w.Length {
			t.Errorf("%s: %s, %d; reversed: %s, %d", showTown(n), showWay(w), e, showWay(back), f)
		}
	})
}

// No way is longer than one past another position.
func TestP21_7Past(t *testing.T) {
	for _, n := range towns.Networks() {
		type ends struct{ p, q api.Place }
		lengths := map[ends]api.Rat{}
		places := towns.Places(n)
		for _, p := range places {
			for _, q := range places {
				if w, e := shortest.Between(n, p, q); e == api.OK {
					lengths[ends{p, q}] = w.Length
				}
			}
		}
		for k := 0; k < len(places); k += 5 {
			past := places[k]
			for _, p := range places {
				first, begins := lengths[ends{p, past}]
				for _, q := range places {
					second, goesOn := lengths[ends{past, q}]
					if !begins || !goesOn {
						continue
					}
					length, found := lengths[ends{p, q}]
					if !found || rational.Compare(rational.Add(first, second), length) < 0 {
						t.Errorf("%s: from %s to %s, past %s", showTown(n), showPlace(p), showPlace(q), showPlace(past))
					}
				}
			}
		}
	}
}

// The least way is not shorter than the straight line.
func TestP12(t *testing.T) {
	pairs(func(n api.Network, p, q api.Place, w shortest.Way, e api.Errno) {
		a, _ := network.Point(n, p)
		b, _ := network.Point(n, q)
		if e == api.OK && rational.Compare(rational.Mul(w.Length, w.Length), plane.Distance2(a, b)) < 0 {
			t.Errorf("%s: %s", showTown(n), showWay(w))
		}
	})
}

func TestP21_7Arguments(t *testing.T) {
	n := town(lonely)
	n.Nodes, n.Roads = slices.Grow(n.Nodes, 9), slices.Grow(n.Roads, 9)
	w, _ := shortest.Between(n, place("2@1"), place("1@2"))
	w.Legs = slices.Grow(w.Legs, 9)
	before := showWay(w)
	shortest.CheckWay(n, w)
	shortest.Along(n, w, rat("9"))
	l, _ := shortest.Lengths(n, 1)
	shortest.CheckLengths(n, 1, l)
	if !slices.Equal(l, []int{0, 5, 11, -1}) {
		t.Errorf("an argument is %v", l)
	}
	near, _ := shortest.Within(n, 1, 9)
	r, _ := shortest.FindRoute(n, 3, 2)
	for _, list := range [][]int{near, l, r.Nodes, r.Roads} {
		clear(list[:cap(list)])
	}
	other, _ := shortest.Between(n, place("2@1"), place("1@2"))
	clear(other.Legs)
	if showTown(n) != lonely || showWay(w) != before {
		t.Errorf("arguments are %s and %s", showTown(n), showWay(w))
	}
}
