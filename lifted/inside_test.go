package lifted_test

import (
	"testing"

	"viator/api"
	"viator/lifted"
	"viator/movingbool"
	"viator/movingpoint"
	"viator/movingregion"
	"viator/notation"
	"viator/period"
	"viator/polygon"
	"viator/real"
)

func TestP18_3Examples(t *testing.T) {
	const (
		still = "[0 4] 1:-1 3:-1 3:1 1:1"
		moves = "[0 4] 0,1:-1 2,1:-1 2,1:1 0,1:1"
		frame = "[0 9] 0:0 8:0 8:4 0:4 | 2:1 6:1 6:3 2:3"
		teeth = "[0 9] 0:0 8:0 8:4 6:1 4:4 2:1 0:4"
		turns = "[0 5/2] 2,1:0,2 0,-2:2,1 -2,-1:0,-2 0,2:-2,-1"
		flips = "[0 1) 0:0 4:0 0:4,-4; (1 2] 0:0 4:0 0:4,-4"
		flash = "[0+sqrt(2) 0+sqrt(2)] 0:0 1,1:0 0:1,1"
	)
	for _, c := range [][5]string{
		{"[0 4] 0,1 0", still, "[1 3]", "[1 1], [3 3]", "[0 4]"}, {"[0 4] 0,1 1", still, "[1 3]", "[1 3]", "[0 4]"}, {"[0 4] 0,1 2", still, "", "", "[0 4]"}, {"[0 4] 0,1 3,-1", still, "[2 3]", "[2 2], [3 3]", "[0 4]"}, {"[0 4] 0,1 0,1", still, "[1 1]", "[1 1]", "[0 4]"}, {"[0 4] 0,1 2,-1", still, "[1 3]", "[1 1], [3 3]", "[0 4]"}, {"(1 3) 0,1 0", still, "(1 3)", "", "(1 3)"}, {"[0 9] 2 0", still, "[0 4]", "", "[0 4]"}, {"[0 9] 1 0", still, "[0 4]", "[0 4]", "[0 4]"}, {"[2 3] 3 1", still, "[2 3]", "[2 3]", "[2 3]"}, {"[0 9] 4 0", still, "", "", "[0 4]"}, {"[0 4] 0,1 -1", still, "[1 3]", "[1 3]", "[0 4]"}, {"[0 4] 3 0,1", still, "[0 1]", "[0 1]", "[0 4]"}, {"[0 2) 0,1 0; (2 9] 4 0", still, "[1 2)", "[1 1]", "[0 2), (2 4]"}, {"[0 1) 0,1 0; (1 2] 0,1 0; (2 3] 2 -2,1; (3 9] 5 5", still, "(1 3]", "[3 3]", "[0 1), (1 4]"},
		{"[0 9] 0,1 2", frame, "[0 2], [6 8]", "[0 0], [2 2], [6 6], [8 8]", "[0 9]"}, {"[0 9] 0,1 1", frame, "[0 8]", "[0 0], [2 6], [8 8]", "[0 9]"}, {"[0 9] 0,1 3,-1", frame, "[0 3]", "[0 0], [2 2], [3 3]", "[0 9]"}, {"[0 9] 4 2", frame, "", "", "[0 9]"}, {"[0 9] 4 0,1/2", frame, "[0 2], [6 8]", "[0 0], [2 2], [6 6], [8 8]", "[0 9]"}, {"[0 9] 1 2", frame, "[0 9]", "", "[0 9]"},
		{"[0 8] 0,1 2", teeth, "[0 4/3], [8/3 16/3], [20/3 8]", "[0 0], [4/3 4/3], [8/3 8/3], [16/3 16/3], [20/3 20/3], [8 8]", "[0 8]"}, {"[0 8] 0,1 1", teeth, "[0 8]", "[0 0], [2 2], [6 6], [8 8]", "[0 8]"}, {"[0 8] 0,1 4", teeth, "[0 0], [4 4], [8 8]", "[0 0], [4 4], [8 8]", "[0 8]"}, {"[-1 9] 0,1 0", teeth, "[0 8]", "[0 8]", "[0 9]"},
		{"[0 4] 0,1 0", moves, "[0 4]", "[0 4]", "[0 4]"}, {"[0 4] 0,2 0", moves, "[0 2]", "[0 0], [2 2]", "[0 4]"}, {"[0 4] 1,1 0", moves, "[0 4]", "", "[0 4]"}, {"[0 4] 3,1 0", moves, "", "", "[0 4]"}, {"[0 9] 3 0", moves, "[1 3]", "[1 1], [3 3]", "[0 4]"},
		{"[0 2] 1 2", "[0 2] 0:0 4:0 0,2:4", "[0 1]", "[1 1]", "[0 2]"}, {"[0 5] 3 0", turns, "[1/2+sqrt(13/20) 5/2]", "[1/2+sqrt(13/20) 1/2+sqrt(13/20)]", "[0 5/2]"}, {"[0 5] 2 1", turns, "[2/5 5/2]", "[2/5 2/5]", "[0 5/2]"}, {"[0 5] 0 0", turns, "[0 5/2]", "", "[0 5/2]"},
		{"[0 2] 1 0", flips, "[0 1), (1 2]", "[0 1), (1 2]", "[0 1), (1 2]"}, {"[0 2] 1 1", flips, "[0 2/3]", "[2/3 2/3]", "[0 1), (1 2]"}, {"[0 2] 1 -1", flips, "[4/3 2]", "[4/3 4/3]", "[0 1), (1 2]"},
		{"[0 9] 0 0,1", flash, "[0+sqrt(2) 0+sqrt(2)]", "[0+sqrt(2) 0+sqrt(2)]", "[0+sqrt(2) 0+sqrt(2)]"}, {"[0 9] 1/2,1/2 1/2,1/2", flash, "[0+sqrt(2) 0+sqrt(2)]", "[0+sqrt(2) 0+sqrt(2)]", "[0+sqrt(2) 0+sqrt(2)]"}, {"[0 9] 1 1", flash, "[0+sqrt(2) 0+sqrt(2)]", "", "[0+sqrt(2) 0+sqrt(2)]"}, {"[0 9] 2 1", flash, "", "", "[0+sqrt(2) 0+sqrt(2)]"}, {"[0 9] 1/4 1/4", "[3 3] 0:0 1:0 0:1", "[3 3]", "", "[3 3]"}, {"[0 1] 2 0", "[2 3] 1:-1 3:-1 3:1 1:1", "", "", ""}, {"", still, "", "", ""}, {"[0 1] 2 0", "", "", "", ""},
	} {
		a, z := units(c[0]), zone(c[1])
		if got := lifted.Inside(a, z); show(got.True) != c[2] || show(got.Domain) != c[4] {
			t.Errorf("Inside(%s; %s) = %s; want %s of %s", c[0], c[1], showBool(got), c[2], c[4])
		}
		if got := lifted.Border(a, z); show(got.True) != c[3] || show(got.Domain) != c[4] {
			t.Errorf("Border(%s; %s) = %s; want %s of %s", c[0], c[1], showBool(got), c[3], c[4])
		}
	}
}

// Insides and borders by the words of layer 8, wherever something can change, and between.
func TestP18_3(t *testing.T) {
	within, on, out := 0, 0, 0
	visits(func(a []api.PointUnit, z []api.RegionUnit) {
		name := "(" + showUnits(a) + "; " + showZone(z) + ")"
		where := func(is func(p spot, rings [][]spot) bool) func(m api.Real) (bool, bool) {
			return func(m api.Real) (bool, bool) {
				p, ok := positionAt(a, m)
				rings, defined := ringsAt(z, m)
				return ok && defined && is(p, rings), ok && defined
			}
		}
		inside, border, when := lifted.Inside(a, z), lifted.Border(a, z), passages(a, z)
		checkBool(t, "Inside"+name, inside, when, where(isInside))
		checkBool(t, "Border"+name, border, when, where(isOnBorder))
		within, on, out = within+len(inside.True), on+len(border.True), out+len(movingbool.False(inside))
	})
	if within < 100 || on < 100 || out < 100 {
		t.Errorf("%d times inside, %d times on the border, %d times outside only", within, on, out)
	}
}

func TestP18_3InPolygon(t *testing.T) {
	for _, s := range polygons() {
		p := poly(s)
		if polygon.Check(p) != api.OK {
			t.Fatal(s)
		}
		each(func(a []api.PointUnit) {
			got := lifted.InPolygon(a, p)
			if want := lifted.Inside(a, movingregion.Static(p, list("[-99 99]"))); !movingbool.Equal(got, want) || !period.Equal(got.Domain, movingpoint.Domain(a)) {
				t.Errorf("InPolygon(%s; %s) = %s; want %s", showUnits(a), s, showBool(got), showBool(want))
			}
			for _, m := range append(instants(intervals(a)), movingbool.Changes(got)...) {
				r, ok := real.Rational(m)
				at, defined := movingpoint.AtRat(a, r)
				if !ok || !defined {
					continue
				}
				if value, _ := movingbool.At(got, m); value != (polygon.Locate(p, at) != polygon.Outside) {
					t.Errorf("InPolygon(%s; %s) at %s is %v", showUnits(a), s, real.Print(m), value)
				}
			}
		})
	}
	for _, c := range [][3]string{{"[0 4] 0,1 0", "1:-1 3:-1 3:1 1:1", "[1 3]"}, {"[0 4] 0,1 2", "0:0 4:0 4:4 0:4 | 1:1 1:3 3:3 3:1", "[0 1], [3 4]"}, {"[0 4] 0,1 1", "0:0 4:0 4:4 0:4 | 1:1 1:3 3:3 3:1", "[0 4]"}, {"[0 4] 0,1 0,1", "1:-1 3:-1 3:1 1:1", "[1 1]"}, {"", "0:0 1:0 0:1", ""}} {
		if got := lifted.InPolygon(units(c[0]), poly(c[1])); show(got.True) != c[2] {
			t.Errorf("InPolygon(%s; %s) = %s; want %s", c[0], c[1], showBool(got), c[2])
		}
	}
}

// All rings that a polygon can have, with all the vertices that they can have.
func TestP18_3Large(t *testing.T) {
	p := notation.Polygon("0:0 10:-1 20:0 30:-1 40:0 41:10 40:20 30:21 20:20 10:21 0:20 -1:10 | 2:5 4:4 6:5 8:4 10:5 10:8 9:11 10:14 8:15 6:14 4:15 2:14 | 14:5 16:4 18:5 20:4 22:5 22:8 21:11 22:14 20:15 18:14 16:15 14:14 | 26:5 28:4 30:5 32:4 34:5 34:8 33:11 34:14 32:15 30:14 28:15 26:14")
	if e := polygon.Check(p); e != api.OK {
		t.Fatal(e)
	}
	got := lifted.InPolygon(units("[-9 50] 0,1 11"), p)
	if want := "[-9/10 2], [9 14], [21 26], [33 409/10]"; show(got.True) != want {
		t.Errorf("InPolygon = %s; want %s", showBool(got), want)
	}
}
