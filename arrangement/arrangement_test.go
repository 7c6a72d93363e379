package arrangement_test

import (
	"math/rand"
	"slices"
	"strings"
	"testing"

	"viator/api"
	"viator/arrangement"
	"viator/integer"
	"viator/plane"
	"viator/rational"
)

func rat(s string) api.Rat {
	r, e := rational.Parse(s)
	if e != api.OK {
		panic(s)
	}
	return r
}

// points returns the points whose coordinates stand in a string, segs the segments between each two of them, and sides those of the ring that they form.
func points(s string) []api.Point {
	c := strings.Fields(s)
	var l []api.Point
	for k := 0; k < len(c); k += 2 {
		l = append(l, api.Point{X: rat(c[k]), Y: rat(c[k+1])})
	}
	return l
}

func segs(s string) []api.Segment {
	ends := points(s)
	var l []api.Segment
	for k := 0; k < len(ends); k += 2 {
		l = append(l, api.Segment{A: ends[k], B: ends[k+1]})
	}
	return l
}

func sides(s string) []api.Segment {
	ends := points(s)
	var l []api.Segment
	for k, p := range ends {
		l = append(l, api.Segment{A: p, B: ends[(k+1)%len(ends)]})
	}
	return l
}

func show(l ...api.Point) string {
	var parts []string
	for _, p := range l {
		parts = append(parts, rational.Print(p.X)+" "+rational.Print(p.Y))
	}
	return strings.Join(parts, " ")
}

func showSegs(l []api.Segment) string {
	var parts []string
	for _, s := range l {
		parts = append(parts, show(s.A, s.B))
	}
	return strings.Join(parts, ", ")
}

func build(t *testing.T, l []api.Segment) arrangement.Arrangement {
	t.Helper()
	a, e := arrangement.Build(l)
	if e != api.OK {
		t.Fatalf("Build(%s): %d", showSegs(l), e)
	}
	return a
}

// all calls a function with special and random segments, their arrangement, and what it has to be.
func all(t *testing.T, f func(l []api.Segment, a arrangement.Arrangement, m *model)) {
	t.Helper()
	for _, l := range append(special(), random(1, 150)...) {
		f(l, build(t, l), newModel(l))
	}
}

func inFace(k int) arrangement.Place {
	return arrangement.Place{Kind: arrangement.InFace, Index: k}
}

func TestP10_1(t *testing.T) {
	all(t, func(l []api.Segment, a arrangement.Arrangement, m *model) {
		if !slices.Equal(a.Vertices, m.Vertices) {
			t.Errorf("the vertices of %s are %s", showSegs(l), show(a.Vertices...))
		}
		sameEdges := slices.EqualFunc(a.Edges, m.Edges, func(e, f arrangement.Edge) bool { return e.A == f.A && e.B == f.B && slices.Equal(e.Of, f.Of) })
		if !sameEdges {
			t.Errorf("the edges of %s are %v, not %v", showSegs(l), a.Edges, m.Edges)
		}
		sameFaces := slices.EqualFunc(a.Faces, m.Faces, func(f, g arrangement.Face) bool {
			return slices.Equal(f.Outer, g.Outer) && slices.EqualFunc(f.Holes, g.Holes, slices.Equal[[]int])
		})
		if !sameFaces {
			t.Errorf("the faces of %s are %v, not %v", showSegs(l), a.Faces, m.Faces)
		}
	})
}

func TestP10_1Examples(t *testing.T) {
	a := build(t, sides("0 0 4 0 0 4"))
	want := arrangement.Arrangement{
		Vertices: points("0 0 0 4 4 0"),
		Edges:    []arrangement.Edge{{A: 0, B: 1, Of: []int{2}}, {A: 0, B: 2, Of: []int{0}}, {A: 1, B: 2, Of: []int{1}}},
		Faces:    []arrangement.Face{{Holes: [][]int{{0, 4, 3}}}, {Outer: []int{1, 2, 5}}},
	}
	if !arrangement.Equal(a, want) {
		t.Errorf("the arrangement of a triangle is %v", a)
	}
	a = build(t, segs("0 0 4 0 2 0 6 0"))
	want = arrangement.Arrangement{
		Vertices: points("0 0 2 0 4 0 6 0"),
		Edges:    []arrangement.Edge{{A: 0, B: 1, Of: []int{0}}, {A: 1, B: 2, Of: []int{0, 1}}, {A: 2, B: 3, Of: []int{1}}},
		Faces:    []arrangement.Face{{Holes: [][]int{{0, 2, 4, 5, 3, 1}}}},
	}
	if !arrangement.Equal(a, want) {
		t.Errorf("the arrangement of two segments on a line is %v", a)
	}
	// A triangle with a square and a segment inside, and another segment inside of the square.
	a = build(t, slices.Concat(sides("0 0 20 0 0 20"), sides("1 1 5 1 5 5 1 5"), segs("7 1 8 2 2 2 3 3")))
	if len(a.Faces) != 3 || len(a.Faces[0].Holes) != 1 || len(a.Faces[1].Outer) != 3 || len(a.Faces[1].Holes) != 2 || len(a.Faces[2].Outer) != 4 || len(a.Faces[2].Holes) != 1 {
		t.Errorf("the faces are %v", a.Faces)
	}
	if a := build(t, nil); !arrangement.Equal(a, arrangement.Arrangement{Faces: []arrangement.Face{{}}}) {
		t.Errorf("the arrangement without segments is %v", a)
	}
}

func TestP10_1Errors(t *testing.T) {
	line := func(n int) []api.Segment {
		var l []api.Segment
		for k := range n {
			l = append(l, api.Segment{A: plane.At(k, 0), B: plane.At(k, 1)})
		}
		return l
	}
	for _, c := range []struct {
		l []api.Segment
		e api.Errno
	}{
		{line(128), api.OK}, {line(129), api.ErrLimit}, {line(1000), api.ErrLimit}, {make([]api.Segment, 129), api.ErrLimit}, {append(line(127), segs("1 2 1 2")...), api.ErrShape}, {append(line(128), segs("1 2 1 2")...), api.ErrLimit}, {segs("1/2 1/3 1/2 1/3"), api.ErrShape}, {segs("0 0 1 1 2 2 2 2 3 3 4 4"), api.ErrShape}, {make([]api.Segment, 128), api.ErrShape},
	} {
		a, e := arrangement.Build(c.l)
		if e != c.e || (e == api.OK) != (len(a.Faces) > 0) || e != api.OK && !arrangement.Equal(a, arrangement.Arrangement{}) {
			t.Errorf("Build of %d segments = %v, %d", len(c.l), a, e)
		}
	}
	if arrangement.MaxSegments != 128 {
		t.Error("the limit")
	}
}

// The greatest arrangement: each two of 128 segments cross, each at another point.
func TestP10_1Greatest(t *testing.T) {
	var l []api.Segment
	for k := range arrangement.MaxSegments {
		l = append(l, api.Segment{A: plane.At(k, 0), B: plane.At(-k*k, 1)})
	}
	a := build(t, l)
	const n = arrangement.MaxSegments
	if len(a.Vertices) != n*(n-1)/2+2*n || len(a.Edges) != n*n || len(a.Faces) != 1+(n-1)*(n-2)/2 || arrangement.Components(a) != 1 {
		t.Errorf("%d vertices, %d edges, %d faces and %d components", len(a.Vertices), len(a.Edges), len(a.Faces), arrangement.Components(a))
	}
	for k := 1; k < len(a.Faces); k += 100 {
		if p, e := arrangement.Sample(a, k); e != api.OK || arrangement.Locate(a, p) != inFace(k) {
			t.Errorf("Sample of the face %d = %s, %d", k, show(p), e)
		}
	}
}

func TestP10_2(t *testing.T) {
	all(t, func(l []api.Segment, a arrangement.Arrangement, m *model) {
		for h := range 2 * len(a.Edges) {
			from, to := m.ends(h)
			if arrangement.Origin(a, h) != from || arrangement.Target(a, h) != to || arrangement.Twin(a, h) != h^1 {
				t.Errorf("the ends or the twin of the half-edge %d of %s", h, showSegs(l))
			}
			if n := arrangement.Next(a, h); n != m.next[h] {
				t.Errorf("the next one of the half-edge %d of %s is %d", h, showSegs(l), n)
			}
			if k := arrangement.Left(a, h); k != m.face[h] {
				t.Errorf("the face of the half-edge %d of %s is %d", h, showSegs(l), k)
			}
		}
		for _, h := range []int{-1, -2, -1 << 63, 2 * len(a.Edges), 2*len(a.Edges) + 1, 1<<63 - 1} {
			if got := [5]int{arrangement.Origin(a, h), arrangement.Target(a, h), arrangement.Twin(a, h), arrangement.Next(a, h), arrangement.Left(a, h)}; got != [5]int{-1, -1, -1, -1, -1} {
				t.Errorf("the half-edge %d of %s: %v", h, showSegs(l), got)
			}
		}
	})
}

func TestP10_3(t *testing.T) {
	if arrangement.AtVertex != 1 || arrangement.OnEdge != 2 || arrangement.InFace != 3 {
		t.Error("the kinds of places")
	}
	kinds := [4]int{}
	all(t, func(l []api.Segment, a arrangement.Arrangement, m *model) {
		var where []api.Point
		for x := -1; x < 22; x += 4 {
			for y := -1; y < 22; y += 3 {
				where = append(where, plane.Scale(plane.At(x, y), half()), plane.Scale(plane.At(x+1, y), half()))
			}
		}
		for k, v := range a.Vertices {
			where = append(where, v, plane.Add(v, plane.At(0, -1)), plane.Add(v, plane.At(1, 1)), plane.Scale(plane.Add(v, a.Vertices[k*5%len(a.Vertices)]), half()))
		}
		for k := range a.Edges {
			where = append(where, plane.Divide(m.segment(2*k), rat("1/3")))
		}
		for _, p := range where {
			want := m.locate(p)
			kinds[want.Kind]++
			if got := arrangement.Locate(a, p); got != want {
				t.Errorf("Locate(%s; %s) = %v, not %v", showSegs(l), show(p), got, want)
			}
		}
	})
	if min(kinds[1], kinds[2], kinds[3]) < 1000 {
		t.Errorf("the kinds of places: %v", kinds)
	}
	if p := arrangement.Locate(build(t, nil), plane.At(0, 0)); p != inFace(0) {
		t.Errorf("Locate without segments = %v", p)
	}
}

func half() api.Rat { return rat("1/2") }

func TestP10_4Sample(t *testing.T) {
	all(t, func(l []api.Segment, a arrangement.Arrangement, m *model) {
		for k := range a.Faces {
			p, e := arrangement.Sample(a, k)
			if e != api.OK || m.locate(p) != inFace(k) {
				t.Errorf("Sample(%s; %d) = %s, %d", showSegs(l), k, show(p), e)
			}
		}
		for _, k := range []int{-1, -1 << 63, len(a.Faces), 1<<63 - 1} {
			if p, e := arrangement.Sample(a, k); e != api.ErrRange || p != (api.Point{}) {
				t.Errorf("Sample(%s; %d) = %s, %d", showSegs(l), k, show(p), e)
			}
		}
	})
}

func TestP10_4Area2(t *testing.T) {
	all(t, func(l []api.Segment, a arrangement.Arrangement, m *model) {
		for k, f := range a.Faces {
			want := m.area(f.Outer)
			for _, hole := range f.Holes {
				want = rational.Add(want, m.area(hole))
			}
			area, e := arrangement.Area2(a, k)
			if k == 0 && (e != api.ErrRange || area != api.Rat{}) || k > 0 && (e != api.OK || area != want) {
				t.Errorf("Area2(%s; %d) = %s, %d", showSegs(l), k, rational.Print(area), e)
			}
		}
		for _, k := range []int{-1, -1 << 63, len(a.Faces), 1<<63 - 1} {
			if area, e := arrangement.Area2(a, k); e != api.ErrRange || area != (api.Rat{}) {
				t.Errorf("Area2(%s; %d) = %s, %d", showSegs(l), k, rational.Print(area), e)
			}
		}
	})
	a := build(t, slices.Concat(sides("0 0 9 0 0 9"), sides("1 1 3 1 1 3"), segs("4 1 5 1")))
	first, _ := arrangement.Area2(a, 1)
	second, _ := arrangement.Area2(a, 2)
	if first != rat("77") || second != rat("4") {
		t.Errorf("the areas are %s and %s", rational.Print(first), rational.Print(second))
	}
}

func TestP10_5Components(t *testing.T) {
	all(t, func(l []api.Segment, a arrangement.Arrangement, m *model) {
		least := m.component()
		slices.Sort(least)
		if n := arrangement.Components(a); n != len(slices.Compact(least)) {
			t.Errorf("Components(%s) = %d", showSegs(l), n)
		}
	})
	for _, c := range []struct {
		l    []api.Segment
		want int
	}{{nil, 0}, {segs("0 0 4 4 0 4 4 0"), 1}, {segs("0 0 4 0 0 1 4 1"), 2}, {segs("0 0 4 0 4 0 5 5 0 1 4 1 9 9 8 8"), 3}, {segs("0 0 1 0 3 0 4 0 0 -1 0 1 4 -1 4 1 1 0 3 0"), 1}} {
		if n := arrangement.Components(build(t, c.l)); n != c.want {
			t.Errorf("Components(%s) = %d", showSegs(c.l), n)
		}
	}
}

func TestP10_5Equal(t *testing.T) {
	l := append(sides("0 0 9 0 0 9"), sides("1 1 3 1 1 3")...)
	changed := func(change func(a *arrangement.Arrangement)) arrangement.Arrangement {
		a := build(t, l)
		change(&a)
		return a
	}
	same := changed(func(a *arrangement.Arrangement) {})
	for k, change := range []func(a *arrangement.Arrangement){
		func(a *arrangement.Arrangement) { a.Vertices[1].Y = rat("1/2") }, func(a *arrangement.Arrangement) { a.Vertices = a.Vertices[1:] }, func(a *arrangement.Arrangement) { a.Edges[2].A++ }, func(a *arrangement.Arrangement) { a.Edges[2].B++ }, func(a *arrangement.Arrangement) { a.Edges[2].Of[0]++ }, func(a *arrangement.Arrangement) { a.Edges[2].Of = append(a.Edges[2].Of, 5) }, func(a *arrangement.Arrangement) { a.Edges = a.Edges[1:] },
		func(a *arrangement.Arrangement) { a.Faces[1].Outer[0]++ }, func(a *arrangement.Arrangement) { a.Faces[1].Outer = nil }, func(a *arrangement.Arrangement) { a.Faces[0].Outer = []int{0} }, func(a *arrangement.Arrangement) { a.Faces[1].Holes[0][1]++ }, func(a *arrangement.Arrangement) { a.Faces[1].Holes = nil }, func(a *arrangement.Arrangement) { a.Faces[2].Holes = [][]int{{}} }, func(a *arrangement.Arrangement) { a.Faces = a.Faces[:2] },
	} {
		if other := changed(change); arrangement.Equal(same, other) || arrangement.Equal(other, same) || !arrangement.Equal(other, changed(change)) {
			t.Errorf("Equal and the change %d", k)
		}
	}
	empty := changed(func(a *arrangement.Arrangement) {
		a.Faces[0].Outer = []int{}
		a.Faces[2].Holes = [][]int{}
	})
	none := changed(func(a *arrangement.Arrangement) {
		a.Faces[0].Outer, a.Faces[2].Holes = nil, nil
	})
	if !arrangement.Equal(empty, none) || !arrangement.Equal(arrangement.Arrangement{}, arrangement.Arrangement{Vertices: []api.Point{}, Edges: []arrangement.Edge{}, Faces: []arrangement.Face{}}) {
		t.Error("Equal of nil and empty lists")
	}
}

func TestP10_6(t *testing.T) {
	all(t, func(l []api.Segment, a arrangement.Arrangement, m *model) {
		if len(a.Vertices)-len(a.Edges)+len(a.Faces) != 1+arrangement.Components(a) {
			t.Errorf("the numbers of parts of %s", showSegs(l))
		}
		for k := range a.Edges {
			for n := range k {
				s, u := m.segment(2*k), m.segment(2*n)
				if meeting := plane.Meet(s, u); meeting.Kind > plane.Touch || meeting.Kind == plane.Touch && (meeting.Common.A != s.A && meeting.Common.A != s.B || meeting.Common.A != u.A && meeting.Common.A != u.B) {
					t.Errorf("the edges %d and %d of %s", k, n, showSegs(l))
				}
			}
		}
		seen := make([]int, 2*len(a.Edges))
		var inner, outer api.Rat
		for k, f := range a.Faces {
			for _, h := range slices.Concat(append(slices.Clone(f.Holes), f.Outer)...) {
				seen[h]++
			}
			if area, _ := arrangement.Area2(a, k); k > 0 {
				inner = rational.Add(inner, area)
				if rational.Sign(area) <= 0 {
					t.Errorf("the area of the face %d of %s", k, showSegs(l))
				}
			}
		}
		for _, hole := range a.Faces[0].Holes {
			outer = rational.Sub(outer, m.area(hole))
		}
		if inner != outer || slices.ContainsFunc(seen, func(n int) bool { return n != 1 }) {
			t.Errorf("the areas of %s, or the borders %v", showSegs(l), a.Faces)
		}
	})
}

func TestP10_6Order(t *testing.T) {
	r := rand.New(rand.NewSource(2))
	for _, l := range append(special(), random(3, 100)...) {
		a := build(t, l)
		place := r.Perm(len(l))
		other := make([]api.Segment, len(l))
		for k, s := range l {
			if r.Intn(2) == 0 {
				s = api.Segment{A: s.B, B: s.A}
			}
			other[place[k]] = s
		}
		b := build(t, other)
		for k := range a.Edges {
			for n, segment := range a.Edges[k].Of {
				a.Edges[k].Of[n] = place[segment]
			}
			slices.Sort(a.Edges[k].Of)
		}
		if !arrangement.Equal(a, b) {
			t.Errorf("another order of %s", showSegs(l))
		}
	}
}

func TestP10_6Arguments(t *testing.T) {
	l := segs("4 4 0 0 0 4 4 0 5 5 1 1")
	a := build(t, l)
	b := build(t, l)
	arrangement.Locate(a, plane.At(1, 2))
	arrangement.Sample(a, 0)
	arrangement.Components(a)
	if !arrangement.Equal(a, b) || showSegs(l) != "4 4 0 0, 0 4 4 0, 5 5 1 1" {
		t.Errorf("the argument is %s or %v", showSegs(l), a)
	}
	for k := range a.Edges { // no two lists share memory
		a.Edges[k].Of = append(a.Edges[k].Of, -1)
	}
	for k := range a.Faces {
		a.Faces[k].Outer = append(a.Faces[k].Outer, -1)
		for n := range a.Faces[k].Holes {
			a.Faces[k].Holes[n] = append(a.Faces[k].Holes[n], -1)
		}
	}
	for k, edge := range a.Edges {
		if !slices.Equal(edge.Of, append(b.Edges[k].Of, -1)) {
			t.Errorf("the edge %d is %v", k, edge)
		}
	}
}

// Nothing is specified for points that are not canonical and for arrangements that Build does not return, but no function may panic or go on for ever.
func TestP1NotValid(t *testing.T) {
	one, zero := integer.FromInt(1), api.Int{Mag: "\x00"}
	numbers := []api.Rat{{}, {Num: one}, {Num: zero}, {Num: api.Int{Neg: true}}, {Num: one, Den: zero}, {Num: integer.FromInt(2), Den: integer.FromInt(-4)}, {Num: integer.FromInt(2), Den: integer.FromInt(4)}, {Num: api.Int{Neg: true, Mag: "\x00\x00\x00\x00\x00\x00\x00\x00\x00\x05"}, Den: one}}
	r := rand.New(rand.NewSource(4))
	some := func() api.Point {
		return api.Point{X: numbers[r.Intn(len(numbers))], Y: numbers[r.Intn(len(numbers))]}
	}
	for k := range 60 {
		l := make([]api.Segment, 1+k*127/59)
		for n := range l {
			for l[n].A == l[n].B {
				l[n] = api.Segment{A: some(), B: some()}
			}
		}
		a, _ := arrangement.Build(l)
		useAll(a, some())
	}
	for range 3000 {
		index := func() int { return r.Intn(9) - 2 }
		indices := func() []int {
			l := make([]int, r.Intn(5))
			for k := range l {
				l[k] = index()
			}
			return l
		}
		var a arrangement.Arrangement
		for range r.Intn(5) {
			a.Vertices = append(a.Vertices, plane.At(r.Intn(3), r.Intn(3)))
		}
		for range r.Intn(5) {
			a.Edges = append(a.Edges, arrangement.Edge{A: index(), B: index(), Of: indices()})
		}
		for range r.Intn(5) {
			a.Faces = append(a.Faces, arrangement.Face{Outer: indices(), Holes: [][]int{indices(), nil, indices()}})
		}
		useAll(a, plane.At(r.Intn(4), r.Intn(4)))
	}
}

func useAll(a arrangement.Arrangement, p api.Point) {
	for h := -2; h < 8; h++ {
		arrangement.Origin(a, h)
		arrangement.Target(a, h)
		arrangement.Twin(a, h)
		arrangement.Next(a, h)
		arrangement.Left(a, h)
		arrangement.Sample(a, h)
		arrangement.Area2(a, h)
	}
	arrangement.Locate(a, p)
	arrangement.Components(a)
	arrangement.Equal(a, a)
}
