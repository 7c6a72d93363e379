package movingregion_test

import (
	"slices"
	"strings"
	"testing"

	"viator/api"
	"viator/movingregion"
	"viator/polygon"
	"viator/rational"
	"viator/real"
)

func TestP17_1Check(t *testing.T) {
	bad := wrong()[2].P
	vertices := func(n int) []api.Line { return make([]api.Line, n) }
	with := func(v api.Line) []api.Line { return append(vertices(4), v) }
	many := [][]api.Line{vertices(3), vertices(3), vertices(3), vertices(3)}
	for k, c := range []struct {
		f movingregion.Shape
		e api.Errno
	}{
		{movingregion.Shape{}, api.OK}, {movingregion.Shape{Outer: vertices(12), Holes: [][]api.Line{vertices(12), vertices(1), nil}}, api.OK}, {shape("0:0 4:0 0:4,-4"), api.OK},
		{movingregion.Shape{Outer: vertices(13)}, api.ErrLimit}, {movingregion.Shape{Outer: vertices(3), Holes: [][]api.Line{vertices(3), vertices(13)}}, api.ErrLimit}, {movingregion.Shape{Outer: vertices(3), Holes: many}, api.ErrLimit},
		{movingregion.Shape{Outer: with(api.Line{X0: bad})}, api.ErrForm}, {movingregion.Shape{Outer: with(api.Line{X1: bad})}, api.ErrForm}, {movingregion.Shape{Outer: with(api.Line{Y0: bad})}, api.ErrForm}, {movingregion.Shape{Outer: vertices(3), Holes: [][]api.Line{vertices(3), vertices(3), with(api.Line{Y1: bad})}}, api.ErrForm},
		{movingregion.Shape{Outer: with(api.Line{X0: bad}), Holes: many}, api.ErrLimit}, {movingregion.Shape{Outer: with(api.Line{X0: bad}), Holes: [][]api.Line{vertices(13)}}, api.ErrLimit},
	} {
		if e := (movingregion.Shapes{}).Check(c.f); e != c.e {
			t.Errorf("%d: Check = %d; want %d", k, e, c.e)
		}
	}
}

// shapes contains shapes some of which have the same vertices at 1, and some at the root of 2.
func shapes() []movingregion.Shape {
	var l []movingregion.Shape
	for _, s := range []string{"0:0 1:0 0:1", "0,1:0 1:0 0:1", "-1,1:0 1:0 0:1", "0:0 1:0 0:2,-1", "0:0 1:0 0:1 1:1", "1:0 0:1 0:0", "0:0 1:0 0:1 | 0:0", "0:0 1:0 0:1 | 1,-1:0", "0:0 1:0 0:1 | 0:-1,1", "0:0 1:0 0:1 | 0:0 0:0", "0:0 1:0 0:1 | 0:0 | 0:0", "0:0 1:0 | 0:1", "", "|"} {
		l = append(l, shape(s))
	}
	return l
}

func TestP17_1Rules(t *testing.T) {
	r := movingregion.Shapes{}
	at := reals("1 0+sqrt(2) -5/3")
	whole := func(f movingregion.Shape, x api.Real) string {
		return positions([]api.RegionUnit{{In: api.Interval{From: x, To: x}, Outer: f.Outer, Holes: f.Holes}}, x)
	}
	same := 0
	for _, f := range shapes() {
		for _, g := range shapes() {
			if r.Equal(f, g) != (showShape(f) == showShape(g)) {
				t.Errorf("Equal(%s; %s)", showShape(f), showShape(g))
			}
			for _, x := range at {
				want := whole(f, x) == whole(g, x)
				if r.Same(f, g, x) != want || r.Equal(r.Reduce(f, x), r.Reduce(g, x)) != want {
					t.Errorf("%s and %s at %s", showShape(f), showShape(g), real.Print(x))
				}
				if want && showShape(f) != showShape(g) {
					same++
				}
			}
		}
		for _, x := range at {
			reduced := r.Reduce(f, x)
			if whole(reduced, x) != whole(f, x) {
				t.Errorf("Reduce(%s; %s) = %s", showShape(f), real.Print(x), showShape(reduced))
			}
			if x.R == (api.Rat{}) && strings.Contains(showShape(reduced), ",") {
				t.Errorf("Reduce(%s; %s) = %s is not constant", showShape(f), real.Print(x), showShape(reduced))
			}
		}
	}
	if same < 4 {
		t.Errorf("%d times the same value only", same)
	}
}

// Polygons that are valid for one of the reasons that layer 8 names, or not.
func TestP17_1ValidStill(t *testing.T) {
	for s, want := range map[string]bool{
		"0:0 4:0 0:4": true, "0:4 4:0 0:0": true, "0:0 4:0": false, "0:0": false, "": false, "0:0 0:0 4:0 0:4": false, "0:0 4:0 0:4 0:0": false, "0:0 4:0 2:0": false, "0:0 2:0 4:0": false, "0:0 2:0 4:0 0:4": true, "0:0 4:0 2:0 0:4": false, "0:0 4:0 4:4 0:4": true, "0:0 4:4 4:0 0:4": false, "0:0 4:0 2:2 2:0 0:4": false, "0:0 4:0 4:4 2:0 0:4": false, "0:0 4:0 4:4 2:-1 0:4": false, "0:0 4:0 4:4 2:1 0:4": true, "0:0 4:0 4:1 0:1 0:3 4:3 4:4 -1:4 -1:0": true, "0:0 4:0 4:1 1:1 3:1 3:2 0:2": false, "0:0 1:0 1:1 2:1 2:0 3:0 3:3 0:3": true, "0:0 3:0 3:3 0:3 0:2 0:1": true, "0:0 2:0 2:2 1:0 0:2": false,
		"0:0 9:0 9:9 0:9 | 1:1 2:1 1:2": true, "0:0 9:0 9:9 0:9 | 0:1 2:1 1:2": false, "0:0 9:0 9:9 0:9 | 0:0 2:1 1:2": false, "0:0 9:0 9:9 0:9 | -1:1 2:1 1:2": false, "0:0 9:0 9:9 0:9 | 10:1 12:1 11:2": false, "0:0 9:0 9:9 0:9 | -1:-1 20:-1 -1:20": false, "0:0 9:0 9:9 0:9 | 1:1 2:1": false, "0:0 9:0 9:9 0:9 | 1:1 2:2 3:3": false, "0:0 9:0 9:9 0:9 |": false, "0:0 9:0 9:9 0:9 | 1:1 2:1 1:2 | 3:1 4:1 3:2": true, "0:0 9:0 9:9 0:9 | 1:1 2:1 1:2 | 2:1 4:1 3:2": false, "0:0 9:0 9:9 0:9 | 1:1 5:1 1:5 | 2:2 3:2 2:3": false, "0:0 9:0 9:9 0:9 | 2:2 3:2 2:3 | 1:1 5:1 1:5": false, "0:0 9:0 9:9 0:9 | 1:1 5:1 1:5 | 2:1 3:1 2:-1": false, "0:0 9:0 9:9 0:9 | 1:1 5:1 1:5 | 4:4 5:4 4:5 | 7:1 8:1 7:2": true, "0:0 9:0 9:9 0:9 | 1:1 5:1 1:5 | 7:1 8:1 7:2 | 2:2 3:2 2:3": false, "0:0 9:0 9:9 5:9 5:1 4:1 4:9 0:9 | 1:5 8:5 8:6": false, "0:0 9:0 9:9 5:9 5:1 4:1 4:9 0:9 | 1:5 2:5 2:6 | 6:5 7:5 7:6": true, "0:0 9:0 9:9 5:9 5:1 4:1 4:9 0:9 | 17/4:5 9/2:5 9/2:6": false, "0:0 4:8 8:0 | 3:1 5:1 4:3 | 4:4 7/2:5 9/2:5": true,
	} {
		f := shape(s)
		if got := polygon.Check(polygonOf(f, rat("0"))) == api.OK; got != want {
			t.Errorf("polygon.Check(%s) is not %v", s, want)
		}
		for _, at := range reals("0 7/3 0+sqrt(2)") {
			if got := movingregion.Valid(f, at); got != want || valid(f, at) != want {
				t.Errorf("Valid(%s) is not %v", s, want)
			}
		}
	}
}

func TestP17_1Valid(t *testing.T) {
	for _, c := range []struct {
		f, good, bad string
	}{
		{"0:0 4:0 0:4,-4", "0 2 0+sqrt(2) 1-sqrt(1/1000000000000000000000007)", "1"}, {"0:0 0:2,-1 2,-1:0", "0 3", "2"}, {"0,1:0 0:0,1 0,1:2", "1 1+sqrt(2) 2", "0"}, {"0:0 0,1:1 2:0,1", "0 1", "0+sqrt(2) 0-sqrt(2)"}, {"-9:-9 9:-9 9:9 -9:9 | 0,1:0,1 1,2:0,1 0,1:2,1", "0 2 -4 -1/2 0+sqrt(15)", "4 0+sqrt(18) 7 8 100 -1 -5 -9 -10"}, {"-9:-9 9:-9 9:9 -9:9 | 0,1:0,1 1,1:0,1 0,1:2,1 | -1:-1 -2:-1 -1:-2", "0 1 6", "-1 -2 0-sqrt(2) 7 9 10 0+sqrt(101)"},
	} {
		f := shape(c.f)
		for _, x := range reals(c.good) {
			if !movingregion.Valid(f, x) || !valid(f, x) {
				t.Errorf("Valid(%s; %s) is false", c.f, real.Print(x))
			}
		}
		for _, x := range reals(c.bad) {
			if movingregion.Valid(f, x) || valid(f, x) {
				t.Errorf("Valid(%s; %s) is true", c.f, real.Print(x))
			}
		}
	}
}

// Random shapes at the instants at which a sign can change, and between them.
func TestP17_1ValidRandom(t *testing.T) {
	var counts [2]int
	for _, f := range random(1, 24) {
		_, picks := cells(in("[-3 3]"), critical(f))
		for k, x := range picks {
			if k%3 != 0 && len(picks) > 100 {
				continue
			}
			want := valid(f, x)
			if got := movingregion.Valid(f, x); got != want {
				t.Errorf("Valid(%s; %s) = %v", showShape(f), real.Print(x), got)
			}
			if r, isRat := real.Rational(x); isRat && want != (polygon.Check(polygonOf(f, r)) == api.OK) {
				t.Errorf("%s at %s is not %v", showShape(f), real.Print(x), want)
			}
			if want {
				counts[1]++
			} else {
				counts[0]++
			}
		}
	}
	if counts[0] < 300 || counts[1] < 300 {
		t.Errorf("%d not valid and %d valid polygons only", counts[0], counts[1])
	}
}

func TestP17_1FirstBad(t *testing.T) {
	falling, hole := "0:0 4:0 0:4,-4", "-9:-9 9:-9 9:9 -9:9 | 0,1:0,1 1,1:0,1 0,1:2,1"
	for _, c := range []struct{ f, in, want string }{
		{falling, "[0 2]", "1 itself"}, {falling, "(1 2]", "none"}, {falling, "[1 2]", "1 itself"}, {falling, "[0 1)", "none"}, {falling, "[0 1]", "1 itself"}, {falling, "[1 1]", "1 itself"}, {falling, "[2 2]", "none"}, {falling, "[0+sqrt(2) 5)", "none"}, {falling, "(0-sqrt(2) 5)", "1 itself"},
		{"0:0 1:0", "(1 2)", "1"}, {"0:0 1:0", "[1 2)", "1 itself"}, {"0:0 1:0", "[0+sqrt(2) 0+sqrt(2)]", "0+sqrt(2) itself"}, {"0:0 1:0", "(0+sqrt(2) 9]", "0+sqrt(2)"}, {"0:0 9:0 0:9 |", "(0 2]", "0"}, {"", "[0 2]", "0 itself"},
		// An edge that a vertex reaches and passes, or only touches, or rests on.
		{"0:0 4:0 4:4 2:2,-1 0:4", "[0 9]", "2 itself"}, {"0:0 4:0 4:4 2:2,-1 0:4", "(2 9]", "2"}, {"0:0 4:0 4:4 2:2,-1 0:4", "(5/2 9]", "5/2"}, {"0:0 4:0 4:4 2:2,-1 0:4", "[0 2)", "none"}, {"0:0 3:0 5,-1:4 -2,1:4", "[0 9]", "7/2 itself"}, {"0:0 0,1:1 2:0,1", "[0 9]", "0+sqrt(2) itself"}, {"0:0 0,1:1 2:0,1", "(0-sqrt(2) 0+sqrt(2))", "none"}, {"0:0 0,1:1 2:0,1", "[0-sqrt(2) 0+sqrt(2))", "0-sqrt(2) itself"},
		// Edges that become longer along others, and vertices that meet.
		{"0:0 4:0 4:4 3:0,1 2:4", "[0 1]", "0 itself"}, {"0:0 4:0 4:4 3:0,1 2:4", "(0 1]", "none"}, {"0:0 6:0 6:4 3,1:0,1 3,-1:0,1 0:4", "[-1 1]", "-1 itself"}, {"0:0 6:0 6:4 3,1:0,1 3,-1:0,1 0:4", "[0 1]", "0 itself"}, {"0:0 6:0 6:4 3,1:0,1 3,-1:0,1 0:4", "(0 1]", "none"}, {"0:0 1,1:0 2:0 0:1", "[0 3]", "1 itself"}, {"0:0 1,1:0 2:0 0:1", "[0 1)", "none"}, {"0:0 1,1:0 2:0 0:1", "(1 3]", "1"}, {"0:0 2:0 2,1:0 0:1", "[-2 3]", "-2 itself"}, {"0:0 2:0 2,1:0 0:1", "[0 3]", "0 itself"}, {"0:0 2:0 2,1:0 0:1", "(0 3]", "none"}, {"0:0 2:0 2,1:0 0:1", "[-2 -2]", "-2 itself"},
		// Holes that reach a ring, that are outside from the beginning, or in another hole.
		{hole, "[0 99]", "7 itself"}, {hole, "[0 7)", "none"}, {hole, "(7 99]", "7"}, {hole, "[20 99]", "20 itself"}, {hole, "(20 99]", "20"}, {hole, "[0+sqrt(500) 0+sqrt(500)]", "0+sqrt(500) itself"}, {hole, "[-9 -1]", "-9 itself"}, {hole, "(-9 -1]", "none"}, {hole, "[-99 -1]", "-99 itself"},
		{hole + " | 2:2 3:2 2:3", "[0 9]", "4/3 itself"}, {hole + " | 2:2 3:2 2:3", "[-3 4/3)", "none"}, {hole + " | -9/10:-9/10 -5/6:-9/10 -9/10:-5/6", "(-9/10 9]", "-9/10"}, {"-9:-9 9:-9 9:9 -9:9 | -3:-3 -2:-3 -3:-2 | -8,1:-8 8:-8 -8,1:8", "[0 1]", "0 itself"}, {"-9:-9 9:-9 9:9 -9:9 | -5:-5 4:-5 -5:5 | -3,1:-3 -2,1:-3 -3,1:-2", "(0 10]", "0"}, {"-9:-9 9:-9 9:9 -9:9 | -5:-5 4:-5 -5:5 | -3,1:-3 -2,1:-3 -3,1:-2", "[6 12]", "11 itself"},
	} {
		at, itself, bad := movingregion.FirstBad(shape(c.f), in(c.in))
		got := "none"
		if bad {
			got = real.Print(at)
		}
		if itself {
			got += " itself"
		}
		if got != c.want || !bad && at != (api.Real{}) {
			t.Errorf("FirstBad(%s; %s) = %s; want %s", c.f, c.in, got, c.want)
		}
		if wantAt, wantItself, wantBad := firstBad(shape(c.f), in(c.in)); at != wantAt || itself != wantItself || bad != wantBad {
			t.Errorf("%s is bad in %s first at %s", c.f, c.in, real.Print(wantAt))
		}
	}
}

// Random shapes in intervals that end at a rational instant, at another one, or where a sign can change. Before the first bad instant the shape is valid.
func TestP17_1FirstBadRandom(t *testing.T) {
	found := map[string]int{}
	for n, f := range random(2, 60) {
		at := slices.DeleteFunc(critical(f), func(x api.Real) bool { return real.Sign(x) < 0 || real.CompareRat(x, rat("3")) > 0 })
		ends := append(reals("-1/2 0 0+sqrt(2) 3"), at[n%len(at)], at[3*n%len(at)])
		slices.SortFunc(ends, real.Compare)
		ends = slices.Compact(ends)
		for k, from := range ends {
			i := api.Interval{From: from, To: ends[(3*k+n)%len(ends)], OpenFrom: n%3 == 0}
			if real.Compare(i.From, i.To) > 0 || i.From == i.To && i.OpenFrom {
				continue
			}
			i.OpenTo = i.From != i.To && n%5 == 0
			when, itself, bad := movingregion.FirstBad(f, i)
			wantWhen, wantItself, wantBad := firstBad(f, i)
			if when != wantWhen || itself != wantItself || bad != wantBad {
				t.Errorf("FirstBad(%s; %s) = %s, %v, %v; want %s, %v, %v", showShape(f), show([]api.Interval{i}), real.Print(when), itself, bad, real.Print(wantWhen), wantItself, wantBad)
			}
			switch {
			case !bad:
				found["none"]++
			case when == i.From:
				found["at the beginning"]++
			case itself:
				found["later"]++
			}
		}
	}
	for _, what := range []string{"none", "at the beginning", "later"} {
		if found[what] < 20 {
			t.Errorf("bad %s: %d times only", what, found[what])
		}
	}
}

// A shape that rests is bad from the beginning, or never; it does not matter how it is turned and moved.
func TestP17_8Moved(t *testing.T) {
	for _, f := range random(3, 20) {
		at, itself, bad := movingregion.FirstBad(f, in("[-1 3)"))
		moved := movingregion.Shape{}
		for k, ring := range allRings(f) {
			var turned []api.Line
			for _, v := range ring {
				turned = append(turned, api.Line{X0: rational.Neg(v.Y0), X1: rational.Sub(rat("7"), v.Y1), Y0: rational.Add(v.X0, rat("1/3")), Y1: v.X1})
			}
			turned = slices.Concat(turned[1:], turned[:1])
			if slices.Reverse(turned); k == 0 {
				moved.Outer = turned
			} else {
				moved.Holes = append(moved.Holes, turned)
			}
		}
		if when, same, also := movingregion.FirstBad(moved, in("[-1 3)")); when != at || same != itself || also != bad {
			t.Errorf("FirstBad(%s) = %s, %v, %v; want %s, %v, %v", showShape(moved), real.Print(when), same, also, real.Print(at), itself, bad)
		}
	}
}
