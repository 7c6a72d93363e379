package movingpoint_test

import (
	"slices"
	"testing"

	"viator/api"
	"viator/movingnumber"
	"viator/movingpoint"
	"viator/period"
	"viator/rational"
	"viator/real"
)

func TestP15_5(t *testing.T) {
	each(func(l []api.PointUnit) {
		x, y, speed := movingpoint.X(l), movingpoint.Y(l), movingpoint.Speed2(l)
		for _, n := range [][]api.NumberUnit{x, y, speed} {
			if e := movingnumber.Check(n); e != api.OK {
				t.Errorf("%s: %v is no moving number: %d", showUnits(l), n, e)
			}
		}
		for _, m := range instants(l) {
			u, defined := at(l, m)
			want := position(u.F, m)
			first, ok := movingnumber.At(x, m)
			second, is := movingnumber.At(y, m)
			if ok != defined || is != defined || defined && (first != want.X || second != want.Y) {
				t.Errorf("the coordinates of %s at %s are %s and %s", showUnits(l), real.Print(m), real.Print(first), real.Print(second))
			}
			square := rational.Add(rational.Mul(u.F.X1, u.F.X1), rational.Mul(u.F.Y1, u.F.Y1))
			if got, ok := movingnumber.At(speed, m); ok != (u.In.From != u.In.To) || ok && got != real.FromRat(square) {
				t.Errorf("the squared speed of %s at %s is %s, %v", showUnits(l), real.Print(m), real.Print(got), ok)
			}
		}
	})
}

// Coordinates and speeds are joined where they are the same.
func TestP15_5Units(t *testing.T) {
	l := units("[0 1) 0,1 0; [1 1] 1 7; (1 2] 0,1 5; (2 3] 4,-1 5")
	for name, c := range map[string]struct {
		l    []api.NumberUnit
		want []string
	}{"X": {movingpoint.X(l), []string{"[0 2]", "(2 3]"}}, "Y": {movingpoint.Y(l), []string{"[0 1)", "[1 1]", "(1 3]"}}, "Speed2": {movingpoint.Speed2(l), []string{"[0 1)", "(1 3]"}}} {
		var got []string
		for _, u := range c.l {
			got = append(got, show([]api.Interval{u.In}))
		}
		if !slices.Equal(got, c.want) {
			t.Errorf("%s has the units %q; want %q", name, got, c.want)
		}
	}
	if v := movingpoint.Speed2(units("[1 1] 3 4; [2 2] 1 1")); len(v) != 0 {
		t.Errorf("the squared speed at instants = %v", v)
	}
}

func TestP15_6Examples(t *testing.T) {
	for s, want := range map[string][2]string{
		"": {}, "[0 2] 0,2 0; (2 4] 4 -6,3": {"2", ""}, "[0 2) 0,2 0; (2 4] 4 -6,3": {"", "2"}, "[0 2) 0,2 0; [2 2] 4 1; (2 4] 4 -6,3": {"", "2"}, "[0 1] 0 0; [2 3] 0 0": {}, "[0 1] 0 0; [2 3] 0,1 0; (3 4) 3 0; (4 5] 3 0": {"3", "4"}, "[0 1) 3 4; (1 2] 3 4": {"", "1"}, "[0 1) 0,1 0; [1 2] 5 5": {"", "1"}, "[0 1] 0,1 0; (1 2] 5 5": {"", "1"}, "[0 1] 0,1 0; (1 2] 1 0; (2 3] 3,-1 0; (3 4) 0 7": {"1 2", "3"}, "[1 1] 7 7; (1 2] 0,1 0,1": {"", "1"}, "[0 1) 0,1 0,1; [1 1] 7 7": {"", "1"}, "[1 1] 7 7": {}, "[0 0+sqrt(2)] 0,1 0; (0+sqrt(2) 2] 0,1 1; (2 3] 4,-1 1": {"2", "0+sqrt(2)"}, "[0 1] 0,1 0; (1 2] 0,1 1,-1; (2 3) 9 9; [3 3] 0 0; (3 4) 1 1; (5 6) 1 1": {"1", "2 3"},
	} {
		l := units(s)
		if turns, jumps := movingpoint.Turns(l), movingpoint.Jumps(l); showReals(turns) != want[0] || showReals(jumps) != want[1] {
			t.Errorf("%s has turns at %s and jumps at %s; want %s and %s", s, showReals(turns), showReals(jumps), want[0], want[1])
		}
	}
}

// Turns and jumps by the words of the chapter, for each pair of neighbouring units.
func TestP15_6(t *testing.T) {
	turning, jumping := 0, 0
	each(func(l []api.PointUnit) {
		var turns, jumps []api.Real
		for k := range l {
			if k == 0 || l[k-1].In.To != l[k].In.From {
				continue
			}
			m, u, v := l[k].In.From, l[k-1], l[k]
			if (contains(u.In, m) || contains(v.In, m)) && position(u.F, m) == position(v.F, m) {
				turns = append(turns, m)
			} else if !slices.Contains(jumps, m) {
				jumps = append(jumps, m)
			}
		}
		if got := movingpoint.Turns(l); !slices.Equal(got, turns) {
			t.Errorf("Turns(%s) = %s; want %s", showUnits(l), showReals(got), showReals(turns))
		}
		if got := movingpoint.Jumps(l); !slices.Equal(got, jumps) {
			t.Errorf("Jumps(%s) = %s; want %s", showUnits(l), showReals(got), showReals(jumps))
		}
		turning, jumping = turning+len(turns), jumping+len(jumps)
	})
	if turning < 7 || jumping < 7 {
		t.Errorf("%d turns and %d jumps only", turning, jumping)
	}
}

// A moving point whose speed is 0 has no turns.
func TestP15_8Turns(t *testing.T) {
	still := 0
	each(func(l []api.PointUnit) {
		moves := slices.ContainsFunc(movingpoint.Speed2(l), func(u api.NumberUnit) bool { return u.F != (api.Quad{}) })
		if !moves {
			still++
			if turns := movingpoint.Turns(l); len(turns) != 0 {
				t.Errorf("%s has turns at %s", showUnits(l), showReals(turns))
			}
		}
	})
	if still < 4 {
		t.Errorf("%d moving points without speed only", still)
	}
}

func TestP15_7Box(t *testing.T) {
	box := func(sides ...int) api.Box {
		return api.Box{X0: sides[0], X1: sides[1], Y0: sides[2], Y1: sides[3], T0: sides[4], T1: sides[5]}
	}
	for s, want := range map[string]api.Box{
		"[0 2] 0,2 0; (2 4] 4 -6,3": box(0, 4, 0, 6, 0, 4), "[0 2) 0,2 0": box(0, 4, 0, 0, 0, 2), "(1 2) 0,-1 1/2": box(-2, -1, 0, 1, 1, 2), "[0+sqrt(2) 0+sqrt(2)] 0,1 0,-1": box(1, 2, -2, -1, 1, 2), "[3 3] 1 2": box(1, 1, 2, 2, 3, 3), "[-7/3 -1/3] 0 5": box(0, 0, 5, 5, -3, 0), "[0 1] 9 9; [3 4] -9 1,1": box(-9, 9, 4, 9, 0, 4), "(0-sqrt(3) 1-sqrt(1/50)) 0,10 0,1/10": box(-18, 9, -1, 1, -2, 1), "[0 1] 1099511627776 -1099511627776": box(1<<40, 1<<40, -1<<40, -1<<40, 0, 1), "[-1099511627776 1099511627776] 0 0": box(0, 0, 0, 0, -1<<40, 1<<40),
	} {
		if got, e := movingpoint.Box(units(s)); e != api.OK || got != want {
			t.Errorf("Box(%s) = %v, %d; want %v", s, got, e, want)
		}
	}
	for s, want := range map[string]api.Errno{
		"": api.ErrEmpty, "[0 1] 1099511627777 0": api.ErrRange, "[0 1] -1099511627777 0": api.ErrRange, "[0 1] 0 0,1099511627777": api.ErrRange, "[0 1] 0 0,-1099511627777": api.ErrRange, "[0 1099511627777] 0 0": api.ErrRange, "[-1099511627777 0] 0 0": api.ErrRange, "[0 1] 10995116277761/10 0": api.ErrRange, "[0 1] 0 -10995116277761/10": api.ErrRange, "[0 1] 0 0; [2 3] 0 0; [4 1099511627776+sqrt(1/1000000007)) 0 0": api.ErrRange, "[0 1] 100000000000000000000000000000000 0": api.ErrRange, "[0 1) 0,1099511627777 0": api.ErrRange,
	} {
		if got, e := movingpoint.Box(units(s)); e != want || got != (api.Box{}) {
			t.Errorf("Box(%s) = %v, %d; want %d", s, got, e, want)
		}
	}
}

// All positions, and those at the ends, lie in the box, and none is nearer to a side by 1 or more than all others.
func TestP15_8Box(t *testing.T) {
	each(func(l []api.PointUnit) {
		if len(l) == 0 {
			return
		}
		box, e := movingpoint.Box(l)
		if e != api.OK {
			t.Fatalf("Box(%s): %d", showUnits(l), e)
		}
		var xs, ys, ts []api.Real
		for _, u := range l {
			for _, m := range append(instants(l), u.In.From, u.In.To) {
				if contains(u.In, m) || m == u.In.From || m == u.In.To {
					p := position(u.F, m)
					xs, ys, ts = append(xs, p.X), append(ys, p.Y), append(ts, m)
				}
			}
		}
		for _, c := range []struct {
			values    []api.Real
			low, high int
		}{{xs, box.X0, box.X1}, {ys, box.Y0, box.Y1}, {ts, box.T0, box.T1}} {
			least, greatest := slices.MinFunc(c.values, real.Compare), slices.MaxFunc(c.values, real.Compare)
			if order := real.Compare(real.FromInt(c.low), least); order > 0 || real.Compare(real.FromInt(c.low+1), least) <= 0 {
				t.Errorf("Box(%s) = %v: %d is not directly below %s", showUnits(l), box, c.low, real.Print(least))
			}
			if order := real.Compare(real.FromInt(c.high), greatest); order < 0 || real.Compare(real.FromInt(c.high-1), greatest) >= 0 {
				t.Errorf("Box(%s) = %v: %d is not directly above %s", showUnits(l), box, c.high, real.Print(greatest))
			}
		}
	})
}

func TestP15_7Passes(t *testing.T) {
	for _, c := range [][3]string{
		{"[0 2] 0,2 0; (2 4] 4 -6,3", "4,0", "[2 2]"}, {"[0 2] 0,2 0; (2 4] 4 -6,3", "4,3", "[3 3]"}, {"[0 2] 0,2 0; (2 4] 4 -6,3", "5,5", ""}, {"[0 2) 0,2 0; (2 4] 4 -6,3", "4,0", ""}, {"[0 1] 3 4; (1 2] 3 3,1; (2 3] 1,1 5", "3,4", "[0 1]"}, {"[0 1] 0,1 0; (1 2] 1 0; (2 3] 3,-1 0", "1,0", "[1 2]"}, {"[0 2] 0,1 2,-1; [5 5] 1 1; [6 7) 1 1; (7 8] 1 1", "1,1", "[1 1], [5 5], [6 7), (7 8]"}, {"[0 2] 0,1 0,1", "1,1/2", ""}, {"[0+sqrt(2) 0+sqrt(2)] 0,1 0", "7/5,0", ""}, {"", "0,0", ""}, {"[0 2] 0,1 3", "1,4", ""}, {"[0 2] 3 0,1", "4,1", ""},
	} {
		if got := movingpoint.Passes(units(c[0]), point(c[1])); show(got) != c[2] {
			t.Errorf("Passes(%s; %s) = %s; want %s", c[0], c[1], show(got), c[2])
		}
	}
}

// Passes and the coordinates agree: at each instant at which the position is known, and between them.
func TestP15_8Passes(t *testing.T) {
	passed := 0
	each(func(l []api.PointUnit) {
		for _, m := range instants(l) {
			r, isRat := real.Rational(m)
			p, defined := movingpoint.AtRat(l, r)
			if !isRat || !defined {
				continue
			}
			got := movingpoint.Passes(l, p)
			if e := period.Check(got); e != api.OK || !period.Contains(got, m) {
				t.Errorf("Passes(%s; %v) = %s", showUnits(l), p, show(got))
			}
			for _, n := range instants(l) {
				q, ok := positionAt(l, n)
				if period.Contains(got, n) != (ok && q == api.RealPoint{X: real.FromRat(p.X), Y: real.FromRat(p.Y)}) {
					t.Errorf("Passes(%s; %v) = %s at %s", showUnits(l), p, show(got), real.Print(n))
				}
				passed++
			}
		}
	})
	if passed < 1000 {
		t.Errorf("%d instants only", passed)
	}
}
