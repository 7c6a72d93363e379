package overlay_test

import (
	"math/rand"
	"slices"
	"testing"

	"viator/api"
	"viator/integer"
	"viator/overlay"
	"viator/plane"
	"viator/rational"
)

func TestP11_4Sets(t *testing.T) {
	long := 0
	pairs(func(g grid, a, b set) {
		for _, o := range operations() {
			r, e := o.f(g.border(a), g.border(b))
			want := g.border(g.combine(a, b, o.of))
			if len(want) > overlay.MaxBorder {
				long++
				if r != nil || e != api.ErrLimit {
					t.Errorf("%s(%s; %s) = %s, %d", o.name, showSegs(g.border(a)), showSegs(g.border(b)), showSegs(r), e)
				}
			} else if e != api.OK || !slices.Equal(r, want) {
				t.Errorf("%s(%s; %s) = %s, %d, not %s", o.name, showSegs(g.border(a)), showSegs(g.border(b)), showSegs(r), e, showSegs(want))
			}
		}
	})
	if long < 10 {
		t.Errorf("%d results are too long", long)
	}
}

// The results of regions that lie to each other in any way are borders, of what has to be inside.
func TestP11_4Points(t *testing.T) {
	l := regions()
	for k, a := range l {
		for n, b := range l {
			if (k+n)%7 > 0 && max(k, n) > 8 {
				continue
			}
			at := samples(a, b)
			for _, o := range operations() {
				r, e := o.f(a, b)
				if e != api.OK || !isBorder(r) {
					t.Errorf("%s(%s; %s) = %s, %d", o.name, showSegs(a), showSegs(b), showSegs(r), e)
				}
				for _, p := range at {
					if in := o.of(locate(a, p) == overlay.Inside, locate(b, p) == overlay.Inside); in != (locate(r, p) == overlay.Inside) {
						t.Errorf("%s is inside %s of %s and %s: %v", show(p), o.name, showSegs(a), showSegs(b), !in)
					}
				}
			}
		}
	}
}

func TestP11_4Examples(t *testing.T) {
	const square = "0 0 2 0 2 2 0 2"
	a := region(square)
	at := func(x, y int) []api.Segment { return overlay.Translate(a, plane.At(x, y)) }
	triangles := [][]api.Segment{region("0 0 3 0 1 2"), region("0 0 -2 3 -3 0"), region("0 0 -1 -2 2 -3")}
	for k, c := range []struct {
		got  []api.Segment
		want string
	}{
		{do(t, overlay.Union, a, at(2, 2)), "0 0 2 0 0 2 0 0 2 0 2 2 2 2 0 2 2 2 4 2 2 4 2 2 4 2 4 4 4 4 2 4"},
		{do(t, overlay.Union, a, at(2, 0)), "0 0 4 0 0 2 0 0 4 0 4 2 4 2 0 2"},
		{do(t, overlay.Union, a, at(1, 1)), "0 0 2 0 0 2 0 0 1 2 0 2 1 3 1 2 2 0 2 1 2 1 3 1 3 1 3 3 3 3 1 3"},
		{do(t, overlay.Intersect, a, at(1, 1)), "1 1 2 1 1 2 1 1 2 1 2 2 2 2 1 2"},
		{do(t, overlay.Minus, a, at(1, 1)), "0 0 2 0 0 2 0 0 1 1 1 2 1 2 0 2 2 0 2 1 2 1 1 1"},
		{do(t, overlay.Differ, a, at(1, 0)), "0 0 1 0 0 2 0 0 1 0 1 2 1 2 0 2 2 0 3 0 2 2 2 0 3 0 3 2 3 2 2 2"},
		{do(t, overlay.Differ, a, at(1, 1)), "0 0 2 0 0 2 0 0 1 1 1 2 1 2 0 2 1 2 2 2 1 3 1 2 2 0 2 1 2 1 1 1 2 1 3 1 2 2 2 1 3 1 3 3 3 3 1 3"},
		{do(t, overlay.Intersect, a, at(2, 0)), ""}, {do(t, overlay.Intersect, a, at(2, 2)), ""}, {do(t, overlay.Intersect, a, nil), ""}, {do(t, overlay.Minus, nil, a), ""}, {do(t, overlay.Minus, a, region("-1 -1 3 -1 3 3 -1 3")), ""},
		{do(t, overlay.Minus, region("0 0 6 0 6 6 0 6"), at(2, 2)), "0 0 6 0 0 6 0 0 2 2 2 4 2 4 4 4 4 2 2 2 4 4 4 2 6 0 6 6 6 6 0 6"},
		{do(t, overlay.Union, do(t, overlay.Union, triangles[0], triangles[1]), triangles[2]), star},
		{do(t, overlay.Intersect, region("0 0 4 4 4 5 0 1"), region("0 4 1 4 5 0 4 0")), "3/2 5/2 2 2 2 2 5/2 5/2 2 3 3/2 5/2 5/2 5/2 2 3"},
		{do(t, overlay.Union, region("0 0 3 0 0 1"), region("0 0 0 -1 3 0")), "0 -1 3 0 0 1 0 -1 3 0 0 1"},
	} {
		if want := segs(c.want); !slices.Equal(c.got, want) {
			t.Errorf("%d: %s, not %s", k, showSegs(c.got), c.want)
		}
	}
}

func TestP11_4Limit(t *testing.T) {
	rest := overlay.Translate(comb(15, false), plane.At(0, 30))
	one := region("200 0 201 0 200 1")
	for _, c := range []struct {
		name string
		f    func(a, b []api.Segment) ([]api.Segment, api.Errno)
		a, b []api.Segment
		n    int // of the segments, if they are not too many
	}{
		{"Union", overlay.Union, comb(14, false), one, 59}, {"Union", overlay.Union, comb(15, false), one, 0}, {"Union", overlay.Union, one, comb(15, false), 0}, {"Union", overlay.Union, comb(15, false), rest, 0}, {"Union", overlay.Union, comb(15, false), comb(15, false), 60},
		{"Intersect", overlay.Intersect, comb(3, false), comb(5, true), 60}, {"Intersect", overlay.Intersect, comb(4, false), comb(4, true), 0}, {"Intersect", overlay.Intersect, comb(15, false), comb(15, true), 0},
		{"Minus", overlay.Minus, comb(15, false), one, 60}, {"Minus", overlay.Minus, comb(7, false), comb(1, true), 28}, {"Minus", overlay.Minus, comb(15, false), comb(1, true), 60}, {"Minus", overlay.Minus, comb(15, false), overlay.Translate(comb(1, true), plane.At(3, 0)), 0},
		{"Differ", overlay.Differ, comb(14, false), one, 59}, {"Differ", overlay.Differ, comb(15, false), one, 0}, {"Differ", overlay.Differ, comb(15, false), comb(14, false), 4},
	} {
		r, e := c.f(c.a, c.b)
		if c.n == 0 && (e != api.ErrLimit || r != nil) || c.n > 0 && (e != api.OK || len(r) != c.n || overlay.Check(r) != api.OK) {
			t.Errorf("%s of %d and %d segments: %d, %d", c.name, len(c.a), len(c.b), len(r), e)
		}
	}
}

func TestP11_7(t *testing.T) {
	add := func(l ...[]api.Segment) api.Rat {
		var sum api.Rat
		for _, r := range l {
			sum = rational.Add(sum, overlay.Area2(r))
		}
		return sum
	}
	l := regions()
	for k, a := range l {
		if !slices.Equal(do(t, overlay.Union, a, a), a) || !slices.Equal(do(t, overlay.Intersect, a, a), a) || len(do(t, overlay.Minus, a, a))+len(do(t, overlay.Differ, a, a)) > 0 {
			t.Errorf("the operations of %s and itself", showSegs(a))
		}
		for _, b := range l[:min(k, 15)] {
			union, both, differ, minus, other := do(t, overlay.Union, a, b), do(t, overlay.Intersect, a, b), do(t, overlay.Differ, a, b), do(t, overlay.Minus, a, b), do(t, overlay.Minus, b, a)
			if !slices.Equal(do(t, overlay.Union, b, a), union) || !slices.Equal(do(t, overlay.Intersect, b, a), both) || !slices.Equal(do(t, overlay.Differ, b, a), differ) {
				t.Errorf("the operations of %s and %s in another order", showSegs(a), showSegs(b))
			}
			if add(union, both) != add(a, b) || add(differ, both) != add(union) || add(minus, both) != add(a) {
				t.Errorf("the areas for %s and %s", showSegs(a), showSegs(b))
			}
			if !slices.Equal(do(t, overlay.Union, minus, both), a) || !slices.Equal(do(t, overlay.Union, minus, other), differ) || !slices.Equal(do(t, overlay.Minus, union, both), differ) {
				t.Errorf("the parts of %s and %s", showSegs(a), showSegs(b))
			}
			if overlay.Covers(a, b) != (len(other) == 0) || overlay.Covers(b, a) != (len(minus) == 0) || !overlay.Covers(union, a) || !overlay.Covers(b, both) {
				t.Errorf("Covers of %s and %s", showSegs(a), showSegs(b))
			}
		}
	}
}

// Arguments stay as they are, and results have memory of their own.
func TestP11_7Arguments(t *testing.T) {
	p := poly("0 2 2 2 2 0 1 0 0 0", "1 1/2 3/2 1/2 1 1")
	a, b := region("0 0 6 0 6 6 0 6"), region("2 2 9 2 9 9")
	before := [...]string{showSegs(a), showSegs(b), show(p.Outer...), show(p.Holes[0]...)}
	from, _ := overlay.FromPolygon(p)
	polys, _ := overlay.Polygons(a)
	results := [][]api.Segment{from, overlay.Translate(a, api.Point{})}
	for _, o := range operations() {
		for _, other := range [][]api.Segment{b, nil} {
			results = append(results, do(t, o.f, a, other), do(t, o.f, other, a), do(t, o.f, a[:len(a):len(a)], other))
		}
	}
	for _, r := range results {
		clear(r)
		clear(r[len(r):cap(r)])
	}
	clear(polys[0].Outer)
	overlay.Check(a)
	overlay.Locate(a, plane.At(1, 1))
	overlay.Area2(a)
	overlay.Covers(a, b)
	if after := [...]string{showSegs(a), showSegs(b), show(p.Outer...), show(p.Holes[0]...)}; after != before {
		t.Errorf("the arguments are %v, not %v", after, before)
	}
	// The argument's memory behind its last segment is not written to.
	room := append(slices.Clone(a), segs("7 7 8 8 8 8 9 9")...)
	do(t, overlay.Union, room[:4], b)
	if !slices.Equal(room[4:], segs("7 7 8 8 8 8 9 9")) {
		t.Errorf("behind the argument there is %s", showSegs(room[4:]))
	}
}

// Nothing is specified for lists that are no borders, but no function may panic or go on for ever.
func TestP1NotValid(t *testing.T) {
	one, zero := integer.FromInt(1), api.Int{Mag: "\x00"}
	numbers := []api.Rat{{}, {Num: one}, {Num: integer.FromInt(2)}, {Num: zero}, {Num: api.Int{Neg: true}}, {Num: one, Den: zero}, {Num: integer.FromInt(2), Den: integer.FromInt(-4)}, {Num: integer.FromInt(2), Den: integer.FromInt(4)}, {Num: api.Int{Neg: true, Mag: "\x00\x00\x00\x00\x00\x00\x00\x00\x00\x05"}, Den: one}}
	r := rand.New(rand.NewSource(15))
	some := func(from []api.Rat) []api.Segment {
		number := func() api.Rat { return from[r.Intn(len(from))] }
		l := make([]api.Segment, r.Intn(9))
		if r.Intn(20) == 0 {
			l = make([]api.Segment, 50+r.Intn(90))
		}
		for k := range l {
			l[k] = api.Segment{A: api.Point{X: number(), Y: number()}, B: api.Point{X: number(), Y: number()}}
		}
		return l
	}
	for k := range 1500 {
		from := numbers[:3]
		if k%2 == 0 {
			from = numbers
		}
		a, b := some(from), some(from)
		overlay.Check(a)
		overlay.Polygons(a)
		for _, o := range operations() {
			o.f(a, b)
		}
		for _, s := range b {
			overlay.Locate(a, s.A)
			overlay.Translate(a, s.A)
		}
		overlay.Area2(a)
		overlay.Covers(a, b)
		overlay.Equal(a, b)
	}
}
