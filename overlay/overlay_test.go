package overlay_test

import (
	"math/rand"
	"slices"
	"testing"

	"viator/api"
	"viator/integer"
	"viator/overlay"
	"viator/plane"
	"viator/polygon"
	"viator/rational"
)

// star is the border of three triangles that touch at (0, 0), where three of its segments cross.
const star = "-3 0 3 0 -2 3 -3 0 -1 -2 2 -3 1 2 -1 -2 2 -3 -2 3 3 0 1 2"

// regions returns the empty region, those of polygons, and ones of several parts.
func regions() [][]api.Segment {
	l := [][]api.Segment{
		nil, segs(star),
		segs("0 0 2 0 0 2 0 0 2 0 2 2 2 2 0 2 2 2 4 2 2 4 2 2 4 2 4 4 4 4 2 4"), // squares with a common corner
		segs("0 0 6 0 0 6 0 0 2 2 3 6 3 6 4 2 4 2 2 2 6 0 6 6 6 6 0 6"),         // a hole with a vertex on a side
		segs("0 0 1 0 0 1 0 0 1 0 1 1 1 1 0 1 5 0 6 0 5 1 5 0 6 0 6 1 6 1 5 1"), // squares that are apart
	}
	for _, p := range polygons(40) {
		r, _ := overlay.FromPolygon(p)
		l = append(l, r)
	}
	return l
}

func TestP11_1Valid(t *testing.T) {
	if overlay.MaxBorder != 60 || overlay.Outside != -1 || overlay.Border != 0 || overlay.Inside != 1 {
		t.Error("the constants")
	}
	for _, r := range append(regions(), []api.Segment{}) {
		if e := overlay.Check(r); e != api.OK || !isBorder(r) {
			t.Errorf("Check(%s) = %d", showSegs(r), e)
		}
	}
	pairs(func(g grid, a, b set) {
		for _, s := range []set{a, b} {
			if r := g.border(s); overlay.Check(r) != api.OK || !isBorder(r) {
				t.Errorf("Check(%s) = %d", showSegs(r), overlay.Check(r))
			}
		}
	})
}

func TestP11_1Shape(t *testing.T) {
	for _, s := range []string{
		"0 0 0 0", "0 0 2 0", "0 0 2 0 2 0 0 0", "0 0 2 0 0 0 2 0", "0 0 2 0 0 2 0 0 2 0 0 2 5 5 5 5", // a point, lines, and a triangle with a point
		"0 0 2 0 2 0 0 2", "0 0 2 0 0 2 0 0 2 0 1 1", "0 0 1 0 0 1 1 0", "0 0 2 0 0 2 0 0 2 0 0 2 5 5 6 6", // not closed
		"0 0 0 2 0 2 2 0 2 0 0 0", "0 0 0 2 2 0 0 0 0 2 2 0", // clockwise
		"0 2 0 0 0 0 2 0 2 0 0 2", "0 0 2 0 2 0 0 2 0 2 0 0", // not in order
		"0 0 1 0 0 2 0 0 1 0 2 0 2 0 0 2", "0 0 2 0 0 1/2 0 0 0 2 0 1/2 2 0 0 2", // parts of a side
		"0 0 2 0 0 0 2 0 0 2 0 0 0 2 0 0 2 0 0 2 2 0 0 2",                                            // a triangle twice
		"0 0 2 0 0 2 0 0 0 2 2 0 2 0 0 2",                                                            // one side in both directions
		"0 0 2 2 0 2 2 0 2 0 2 2 2 2 0 0",                                                            // crossing itself
		"0 0 4 0 0 4 0 0 1 1 2 1 1 2 1 1 2 1 1 2 4 0 0 4",                                            // a triangle within one, not a hole
		"0 0 4 0 0 4 0 0 2 0 2 4 2 4 6 4 4 0 4 4 4 4 0 4 6 0 2 0 6 4 6 0",                            // a mixture
		"0 0 2 0 0 2 0 0 2 0 4 0 2 0 2 2 2 2 0 2 2 2 2 0 4 0 4 2 4 2 2 2",                            // squares with a common side
		"0 0 3 0 0 2 0 0 1 1 1 3 1 3 4 3 3 0 3 2 3 2 0 2 4 1 1 1 4 3 4 1",                            // the second square clockwise
		"0 0 3 0 0 3 0 0 1 1 4 1 1 4 1 1 3 0 3 3 3 3 0 3 4 1 4 4 4 4 1 4",                            // squares that overlap
		"-3 0 0 0 -2 3 -3 0 -1 -2 2 -3 0 0 -2 3 0 0 -1 -2 0 0 3 0 1 2 0 0 2 -3 0 0 3 0 1 2",          // the star, its segments divided where they cross
		"-2 -1 0 0 -2 1 -2 -1 -1 2 1 2 0 0 -1 2 0 0 -2 1 0 0 1 -2 0 0 2 -1 1 2 0 0 2 -1 2 1 2 1 0 0", // triangles, one not closed
		"0 0 2 0 0 2 0 0 2 0 0 2 2 0 4 2 4 2 2 0",                                                    // a triangle with a line
	} {
		if r := segs(s); overlay.Check(r) != api.ErrShape || isBorder(r) {
			t.Errorf("Check(%s) = %d", s, overlay.Check(r))
		}
	}
}

func TestP11_1Errors(t *testing.T) {
	square, wrong := region("0 0 2 0 2 2 0 2"), api.Rat{Num: integer.FromInt(2), Den: integer.FromInt(4)}
	row := func(n int) []api.Segment { // n squares
		var l []api.Segment
		for k := range n {
			l = append(l, overlay.Translate(square, plane.At(3*k, 0))...)
		}
		return l
	}
	spoiled := func(l []api.Segment, p *api.Rat) []api.Segment {
		*p = wrong
		return l
	}
	full, over := row(15), append(row(15), segs("99 0 99 0")...)
	a, b, c, d := slices.Clone(square), slices.Clone(square), slices.Clone(square), slices.Clone(square)
	bad := segs("0 0 2 0")
	for k, r := range []struct {
		l []api.Segment
		e api.Errno
	}{
		{full, api.OK}, {over, api.ErrLimit}, {make([]api.Segment, 61), api.ErrLimit}, {make([]api.Segment, 60), api.ErrShape}, {make([]api.Segment, 1000), api.ErrLimit}, {spoiled(slices.Clone(over), &over[60].B.Y), api.ErrLimit}, {over, api.ErrLimit},
		{spoiled(a, &a[0].A.X), api.ErrForm}, {spoiled(b, &b[1].A.Y), api.ErrForm}, {spoiled(c, &c[2].B.X), api.ErrForm}, {spoiled(d, &d[3].B.Y), api.ErrForm}, {spoiled(bad, &bad[0].B.Y), api.ErrForm}, {append(segs("1 1 1 1 0 0 5 0"), bad...), api.ErrForm},
		{append(row(1), api.Segment{A: plane.At(9, 9), B: api.Point{X: api.Rat{Num: api.Int{Neg: true}}}}), api.ErrForm}, {append(row(1), api.Segment{A: plane.At(9, 9), B: plane.At(9, 9)}), api.ErrShape},
	} {
		if e := overlay.Check(r.l); e != r.e {
			t.Errorf("%d: Check = %d, not %d", k, e, r.e)
		}
	}
}

// Whatever is done to the border of a region, the definition says whether it is one still.
func TestP11_1Changed(t *testing.T) {
	r := rand.New(rand.NewSource(13))
	valid := 0
	var all [][]api.Segment
	for _, g := range grids(2) {
		for range 40 {
			all = append(all, g.border(g.some(r)))
		}
	}
	for k, l := range append(all, regions()...) {
		if len(l) == 0 {
			continue
		}
		for range 4 {
			changed := slices.Clone(l)
			for range 1 + r.Intn(2) {
				changed = change(changed, append(all, regions()...)[r.Intn(len(all))], r)
			}
			want := api.ErrShape
			if isBorder(changed) {
				want = api.OK
				valid++
			}
			if e := overlay.Check(changed); e != want && len(changed) <= overlay.MaxBorder {
				t.Errorf("%d: Check(%s) = %d, not %d", k, showSegs(changed), e, want)
			}
		}
	}
	if valid < 10 {
		t.Errorf("%d of the changed lists are borders", valid)
	}
}

// change drops, turns, moves, exchanges, repeats or divides a segment, or adds all those of another list.
func change(l, other []api.Segment, r *rand.Rand) []api.Segment {
	if len(l) == 0 {
		return l
	}
	k, n := r.Intn(len(l)), r.Intn(len(l))
	s := l[k]
	switch r.Intn(8) {
	case 0:
		l = slices.Delete(l, k, k+1)
	case 1:
		l[k] = api.Segment{A: s.B, B: s.A}
	case 2:
		l[k].B = l[n].A
	case 3:
		l[k], l[n] = l[n], s
	case 4:
		l = append(l, s)
	case 5:
		middle := plane.Divide(s, rat("1/3"))
		l[k].B = middle
		l = append(l, api.Segment{A: middle, B: s.B})
	case 6:
		l = append(l, other...)
	case 7:
		for k, s := range l {
			l[k] = api.Segment{A: s.B, B: s.A}
		}
	}
	if r.Intn(4) > 0 {
		slices.SortFunc(l, inOrder)
	}
	return l
}

func TestP11_2(t *testing.T) {
	for _, c := range []struct {
		p    api.Polygon
		want string
	}{
		{poly("0 0 2 0 2 2 0 2"), "0 0 2 0 0 2 0 0 2 0 2 2 2 2 0 2"}, {poly("0 2 1 2 2 2 2 0 1 0 0 0"), "0 0 2 0 0 2 0 0 2 0 2 2 2 2 0 2"}, {poly("0 1 1/2 0 1/3 1/4"), "0 1 1/3 1/4 1/3 1/4 1/2 0 1/2 0 0 1"},
		{poly("0 0 4 0 4 4 0 4", "1 1 2 1 2 2 1 2"), "0 0 4 0 0 4 0 0 1 1 1 2 1 2 2 2 2 1 1 1 2 2 2 1 4 0 4 4 4 4 0 4"}, {poly("0 0 9 0 0 9", "2 1 1 1 1 2", "3 1 4 1 3 2"), "0 0 9 0 0 9 0 0 1 1 1 2 1 2 2 1 2 1 1 1 3 1 3 2 3 2 4 1 4 1 3 1 9 0 0 9"},
	} {
		if r, e := overlay.FromPolygon(c.p); e != api.OK || !overlay.Equal(r, segs(c.want)) {
			t.Errorf("FromPolygon(%s) = %s, %d", show(c.p.Outer...), showSegs(r), e)
		}
	}
	for _, p := range polygons(80) {
		r, e := overlay.FromPolygon(p)
		if e != api.OK || !isBorder(r) || overlay.Area2(r) != polygon.Area2(p) {
			t.Errorf("FromPolygon(%s) = %s, %d", show(p.Outer...), showSegs(r), e)
		}
		for _, at := range append(samples(r), p.Outer...) {
			if locate(r, at) != polygon.Locate(p, at) {
				t.Errorf("%s is elsewhere in the polygon %s", show(at), show(p.Outer...))
			}
		}
	}
}

func TestP11_2Errors(t *testing.T) {
	bad := poly("0 0 1 0 0 1")
	bad.Outer[1].Y = api.Rat{Num: api.Int{Neg: true}}
	const big = "0 0 99 0 99 99 0 99"
	for _, c := range []struct {
		p api.Polygon
		e api.Errno
	}{
		{api.Polygon{}, api.ErrShape}, {poly("0 0 1 0"), api.ErrShape}, {poly("0 0 2 2 2 0 0 2"), api.ErrShape}, {bad, api.ErrForm}, {poly("0 0 1 0 2 0 3 0 4 0 5 0 6 0 7 0 8 0 9 0 10 0 11 0 11 1"), api.ErrLimit}, {poly(big, "0 0 1 0 0 1"), api.ErrOverlap}, {poly(big, "1 1 2 1"), api.ErrShape},
		{poly(big, "1 1 2 1 1 2", "3 1 4 1 3 2", "5 1 6 1 5 2"), api.OK}, {poly(big, "1 1 2 1 1 2", "3 1 4 1 3 2", "5 1 6 1 5 2", "7 1 8 1 7 2"), api.ErrLimit},
	} {
		if r, e := overlay.FromPolygon(c.p); e != c.e || e != api.OK && r != nil {
			t.Errorf("FromPolygon(%s) = %s, %d", show(c.p.Outer...), showSegs(r), e)
		}
	}
	// The greatest polygon: four rings of twelve vertices.
	round := "1 5 2 3 3 2 5 1 7 2 8 3 9 5 8 7 7 8 5 9 3 8 2 7"
	p := poly(round)
	for k, v := range p.Outer {
		p.Outer[k] = plane.Scale(v, rat("10"))
	}
	for k := range 3 {
		p.Holes = append(p.Holes, nil)
		for _, v := range points(round) {
			p.Holes[k] = append(p.Holes[k], plane.Add(v, plane.At(30+12*k, 40)))
		}
	}
	if r, e := overlay.FromPolygon(p); e != api.OK || len(r) != 48 || !isBorder(r) {
		t.Errorf("the greatest polygon: %s, %d", showSegs(r), e)
	}
}

func TestP11_5Locate(t *testing.T) {
	places := map[int]int{}
	check := func(r []api.Segment) {
		where := samples(r)
		for k, s := range r {
			where = append(where, s.A, plane.Divide(s, rat("2/7")), plane.Divide(s, rat("-1/7")), plane.Divide(s, rat("9/8")), plane.Divide(api.Segment{A: s.A, B: r[k*7%len(r)].B}, rat("1/2")), api.Point{X: r[k*5%len(r)].B.X, Y: s.A.Y})
		}
		for _, at := range append(where, api.Point{}, plane.At(1, 2), plane.At(-50, 1)) {
			want := locate(r, at)
			places[want]++
			if got := overlay.Locate(r, at); got != want {
				t.Errorf("Locate(%s; %s) = %d, not %d", showSegs(r), show(at), got, want)
			}
		}
	}
	for _, r := range regions() {
		check(r)
	}
	random := rand.New(rand.NewSource(14))
	for side := 1; side <= 3; side++ {
		for _, g := range grids(side) {
			for range 12 {
				check(g.border(g.some(random)))
			}
		}
	}
	if min(places[-1], places[0], places[1]) < 500 {
		t.Errorf("the places: %v", places)
	}
	for at, want := range map[string]int{"0 0": 0, "-1 0": 0, "1 0": 0, "3 0": 0, "4 0": -1, "-4 0": -1, "1 1": 1, "-2 1": 1, "-1 1": 1, "0 1": -1, "0 -2": 1, "0 -1/100": 1, "0 1/100": -1, "1/2 -2": 1, "2 -1": -1, "-1/2 -1": 0} {
		if got := overlay.Locate(segs(star), points(at)[0]); got != want {
			t.Errorf("Locate of %s in the star is %d", at, got)
		}
	}
}

func TestP11_5Area2(t *testing.T) {
	pairs(func(g grid, a, b set) {
		size := rational.FromInt(0)
		by, _ := g.scale()
		for _, in := range a {
			if in {
				size = rational.Add(size, rational.Mul(by, rational.FromInt(2)))
			}
		}
		if area := overlay.Area2(g.border(a)); area != size {
			t.Errorf("Area2(%s) = %s", showSegs(g.border(a)), rational.Print(area))
		}
	})
	if overlay.Area2(nil) != (api.Rat{}) || overlay.Area2(segs(star)) != rat("22") {
		t.Errorf("Area2 of the star = %s", rational.Print(overlay.Area2(segs(star))))
	}
}

func TestP11_5Covers(t *testing.T) {
	covered := 0
	pairs(func(g grid, a, b set) {
		want := !slices.Contains(g.combine(b, a, func(b, a bool) bool { return b && !a }), true)
		if overlay.Covers(g.border(a), g.border(b)) != want {
			t.Errorf("Covers(%s; %s) is not %v", showSegs(g.border(a)), showSegs(g.border(b)), want)
		}
		if want {
			covered++
		}
	})
	l := polygons(40)
	for _, p := range l {
		for _, q := range l {
			a, _ := overlay.FromPolygon(p)
			b, _ := overlay.FromPolygon(q)
			if overlay.Covers(a, b) != polygon.Contains(p, q) {
				t.Errorf("Covers(%s; %s) is not %v", showSegs(a), showSegs(b), polygon.Contains(p, q))
			}
			if polygon.Contains(p, q) {
				covered++
			}
		}
	}
	if covered < 150 {
		t.Errorf("%d regions cover others", covered)
	}
	square := region("0 0 4 0 4 4 0 4")
	if !overlay.Covers(square, nil) || !overlay.Covers(nil, nil) || overlay.Covers(nil, square) || !overlay.Covers(square, square) {
		t.Error("Covers and the empty region")
	}
	// The difference has more than 60 segments.
	if a, b := comb(14, false), comb(14, true); overlay.Covers(a, b) || overlay.Covers(b, a) {
		t.Error("Covers of two combs")
	}
}

// comb returns a border of n teeth that are apart, upright or not.
func comb(n int, upright bool) []api.Segment {
	var l []api.Segment
	for k := range n {
		tooth := []api.Point{plane.At(0, 2*k), plane.At(99, 2*k), plane.At(99, 2*k+1), plane.At(0, 2*k+1)}
		if upright {
			tooth = []api.Point{plane.At(2*k, 0), plane.At(2*k+1, 0), plane.At(2*k+1, 99), plane.At(2*k, 99)}
		}
		r, _ := overlay.FromPolygon(api.Polygon{Outer: tooth})
		l = append(l, r...)
	}
	slices.SortFunc(l, inOrder)
	return l
}

func TestP11_6(t *testing.T) {
	if r := overlay.Translate(segs("0 0 2 0 0 2 0 0 2 0 0 2"), points("1/2 -1/3")[0]); !slices.Equal(r, segs("1/2 -1/3 5/2 -1/3 1/2 5/3 1/2 -1/3 5/2 -1/3 1/2 5/3")) {
		t.Errorf("Translate = %s", showSegs(r))
	}
	by := points("1000000000000000000000/3 -5/7")[0]
	for _, r := range regions() {
		moved := overlay.Translate(r, by)
		if overlay.Check(moved) != api.OK || !slices.Equal(overlay.Translate(moved, plane.Sub(api.Point{}, by)), r) || overlay.Area2(moved) != overlay.Area2(r) || !slices.Equal(overlay.Translate(r, api.Point{}), r) {
			t.Errorf("Translate(%s) = %s", showSegs(r), showSegs(moved))
		}
		for _, at := range samples(r) {
			if overlay.Locate(moved, plane.Add(at, by)) != overlay.Locate(r, at) {
				t.Errorf("the location of %s in %s does not move along", show(at), showSegs(r))
			}
		}
	}
	a := segs("0 0 2 0 0 2 0 0 2 0 0 2")
	for _, s := range []string{"", "0 0 2 0 0 2 0 0", "0 2 0 0 0 0 2 0 2 0 0 2", "0 0 0 2 0 2 0 0 2 0 0 2", "0 0 2 0 0 2 0 0 2 0 0 1", "0 0 2 0 0 2 0 0 2 0 0 2 0 0 2 0"} {
		if overlay.Equal(a, segs(s)) || overlay.Equal(segs(s), a) || !overlay.Equal(segs(s), segs(s)) {
			t.Errorf("Equal(%s; %s)", showSegs(a), s)
		}
	}
	strange := []api.Segment{{A: api.Point{X: api.Rat{Num: api.Int{Mag: "\x00"}}}}}
	if !overlay.Equal(nil, []api.Segment{}) || !overlay.Equal(a, slices.Clone(a)) || !overlay.Equal(strange, slices.Clone(strange)) || overlay.Equal(strange, make([]api.Segment, 1)) {
		t.Error("Equal of other lists")
	}
}
