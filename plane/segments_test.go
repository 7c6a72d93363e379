package plane_test

import (
	"math/big"
	"testing"

	"viator/api"
	"viator/plane"
	"viator/rational"
)

func TestP7_4Kinds(t *testing.T) {
	if plane.Apart != 0 || plane.Touch != 1 || plane.Cross != 2 || plane.Overlap != 3 {
		t.Error("the kinds of meetings")
	}
}

func TestP7_4OnSegment(t *testing.T) {
	for _, c := range []struct {
		p, s string
		want bool
	}{
		{"1 1", "0 0 3 3", true}, {"4 4", "0 0 3 3", false}, {"-1 -1", "0 0 3 3", false}, {"1 2", "0 0 3 3", false}, {"0 0", "0 0 3 3", true}, {"3 3", "0 0 3 3", true}, {"1 1", "3 3 0 0", true}, {"1 2", "1 2 1 2", true}, {"1 3", "1 2 1 2", false},
		{"0 1", "0 0 0 2", true}, {"0 3", "0 0 0 2", false}, {"0 -1", "0 2 0 0", false}, {"1 0", "0 0 2 0", true}, {"3 0", "0 0 2 0", false}, {"1/3 2/3", "0 0 1 2", true}, {"1/3 1/3", "0 1 1 -1", true}, {"1/3 333333333333/1000000000000", "0 0 1 1", false},
	} {
		if plane.OnSegment(point(c.p), seg(c.s)) != c.want {
			t.Errorf("OnSegment(%s, %s) is not %v", c.p, c.s, c.want)
		}
	}
	l := grid(-1, 2)
	for _, s := range segments(l) {
		a, way := toVector(s.A), toVector(s.B).less(toVector(s.A))
		for _, p := range l {
			v := toVector(p).less(a)
			along := v.dot(way)
			want := v.cross(way).Sign() == 0 && along.Sign() >= 0 && along.Cmp(way.dot(way)) <= 0
			if s.A == s.B {
				want = p == s.A
			}
			if plane.OnSegment(p, s) != want {
				t.Errorf("OnSegment(%s, %s) is not %v", show(p), showSeg(s), want)
			}
		}
	}
}

func TestP7_4Meet(t *testing.T) {
	for _, c := range []struct {
		s, t   string
		kind   int
		common string
	}{
		{"0 0 4 4", "0 4 4 0", plane.Cross, "2 2 2 2"}, {"0 0 4 0", "2 0 6 0", plane.Overlap, "2 0 4 0"}, {"0 0 2 0", "2 0 2 3", plane.Touch, "2 0 2 0"}, {"0 0 4 0", "2 0 2 3", plane.Touch, "2 0 2 0"}, {"0 0 1 3", "0 1 1 1", plane.Cross, "1/3 1 1/3 1"},
		{"0 0 2 0", "2 0 5 0", plane.Touch, "2 0 2 0"}, {"0 0 2 0", "3 0 5 0", plane.Apart, "0 0 0 0"}, {"0 0 2 0", "0 1 2 1", plane.Apart, "0 0 0 0"}, {"0 0 2 0", "3 -1 3 1", plane.Apart, "0 0 0 0"}, {"0 0 2 0", "3 0 3 1", plane.Apart, "0 0 0 0"}, {"0 0 4 0", "0 1 4 2", plane.Apart, "0 0 0 0"},
		{"1 1 1 1", "0 0 2 2", plane.Touch, "1 1 1 1"}, {"1 1 1 1", "1 1 1 1", plane.Touch, "1 1 1 1"}, {"1 2 1 2", "0 0 2 2", plane.Apart, "0 0 0 0"}, {"3 3 3 3", "0 0 2 2", plane.Apart, "0 0 0 0"}, {"1 1 1 1", "2 2 2 2", plane.Apart, "0 0 0 0"}, {"2 2 2 2", "0 0 2 2", plane.Touch, "2 2 2 2"},
		{"0 0 0 4", "0 1 0 3", plane.Overlap, "0 1 0 3"}, {"0 4 0 0", "0 6 0 3", plane.Overlap, "0 3 0 4"}, {"0 0 4 -4", "1 -1 9 -9", plane.Overlap, "1 -1 4 -4"}, {"0 0 4 4", "4 4 0 0", plane.Overlap, "0 0 4 4"}, {"0 0 4 4", "4 4 8 8", plane.Touch, "4 4 4 4"},
		{"0 0 1000000000000 1", "0 1/1000000000000 1000000000000 0", plane.Cross, "1000000000000/1000000000001 1/1000000000001 1000000000000/1000000000001 1/1000000000001"},
	} {
		want := plane.Meeting{Kind: c.kind, Common: seg(c.common)}
		if m := plane.Meet(seg(c.s), seg(c.t)); m != want {
			t.Errorf("Meet(%s, %s) = %d, %s; want %d, %s", c.s, c.t, m.Kind, showSeg(m.Common), c.kind, c.common)
		}
	}
}

// meet finds a meeting from the equation s.A + r * (s.B - s.A) = t.A + u * (t.B - t.A).
func meet(s, t api.Segment) plane.Meeting {
	if s.A == s.B {
		if !plane.OnSegment(s.A, t) {
			return plane.Meeting{}
		}
		return plane.Meeting{Kind: plane.Touch, Common: s}
	}
	one := big.NewRat(1, 1)
	a, way := toVector(s.A), toVector(s.B).less(toVector(s.A))
	between, other := toVector(t.A).less(a), toVector(t.B).less(toVector(t.A))
	determinant := way.cross(other)
	if determinant.Sign() == 0 {
		return meetParallel(s, t)
	}
	r, u := between.cross(other), between.cross(way)
	r.Quo(r, determinant)
	u.Quo(u, determinant)
	if r.Sign() < 0 || r.Cmp(one) > 0 || u.Sign() < 0 || u.Cmp(one) > 0 {
		return plane.Meeting{}
	}
	kind := plane.Cross
	if r.Sign() == 0 || r.Cmp(one) == 0 || u.Sign() == 0 || u.Cmp(one) == 0 {
		kind = plane.Touch
	}
	p := fromVector(a.along(r, way))
	return plane.Meeting{Kind: kind, Common: api.Segment{A: p, B: p}}
}

// meetParallel finds the common ends among the ends that both segments contain.
func meetParallel(s, t api.Segment) plane.Meeting {
	var common []api.Point
	for _, p := range []api.Point{s.A, s.B, t.A, t.B} {
		if plane.OnSegment(p, s) && plane.OnSegment(p, t) {
			common = append(common, p)
		}
	}
	if len(common) == 0 {
		return plane.Meeting{}
	}
	low, high := common[0], common[0]
	for _, p := range common {
		if plane.Compare(p, low) < 0 {
			low = p
		}
		if plane.Compare(p, high) > 0 {
			high = p
		}
	}
	kind := plane.Overlap
	if low == high {
		kind = plane.Touch
	}
	return plane.Meeting{Kind: kind, Common: api.Segment{A: low, B: high}}
}

func TestP7_4MeetOnGrid(t *testing.T) {
	kinds := [4]int{}
	all := segments(grid(0, 2))
	all = append(all, segments(points("0 0 3 3 1 1 2 5/2 1/7 13/5 -1 4"))...)
	for _, s := range all {
		for _, u := range all {
			m, want := plane.Meet(s, u), meet(s, u)
			if m != want {
				t.Errorf("Meet(%s, %s) = %d, %s; want %d, %s", showSeg(s), showSeg(u), m.Kind, showSeg(m.Common), want.Kind, showSeg(want.Common))
			}
			kinds[m.Kind]++
		}
	}
	for kind, n := range kinds {
		if n == 0 {
			t.Errorf("no meetings of the kind %d", kind)
		}
	}
}

func TestP7_5Divide(t *testing.T) {
	for _, c := range [][3]string{{"0 0 4 8", "3/4", "3 6"}, {"0 0 4 8", "0", "0 0"}, {"0 0 4 8", "1", "4 8"}, {"1 2 4 8", "-1/3", "0 0"}, {"1 2 4 8", "2", "7 14"}, {"1/2 1/3 1/2 1/3", "100", "1/2 1/3"}, {"1 0 0 1", "1/3", "2/3 1/3"}} {
		if p := plane.Divide(seg(c[0]), rat(c[1])); p != point(c[2]) {
			t.Errorf("Divide(%s, %s) = %s; want %s", c[0], c[1], show(p), c[2])
		}
	}
}

func TestP7_5Nearest(t *testing.T) {
	for _, c := range [][4]string{
		{"0 1", "0 0 2 1", "2/5 1/5", "1/5"}, {"9 9", "0 0 2 0", "2 0", "1"}, {"-9 9", "0 0 2 0", "0 0", "0"}, {"9 9", "2 3 2 3", "2 3", "0"}, {"2 3", "2 3 2 3", "2 3", "0"}, {"1 5", "0 0 4 0", "1 0", "1/4"}, {"1 5", "4 0 0 0", "1 0", "3/4"}, {"1 1", "0 0 3 3", "1 1", "1/3"}, {"0 0", "0 0 3 3", "0 0", "0"}, {"3 3", "0 0 3 3", "3 3", "1"},
	} {
		if p, r := plane.Nearest(point(c[0]), seg(c[1])); p != point(c[2]) || r != rat(c[3]) {
			t.Errorf("Nearest(%s, %s) = %s, %s; want %s, %s", c[0], c[1], show(p), rational.Print(r), c[2], c[3])
		}
	}
	l := append(grid(-1, 1), samples()[20:28]...)
	for _, s := range segments(l) {
		for _, p := range l {
			n, r := plane.Nearest(p, s)
			if rational.Sign(r) < 0 || rational.Compare(r, rational.FromInt(1)) > 0 || n != plane.Divide(s, r) || s.A == s.B && r != (api.Rat{}) {
				t.Errorf("Nearest(%s, %s) = %s, %s", show(p), showSeg(s), show(n), rational.Print(r))
			}
			// No way along the segment leads nearer to the point.
			v := toVector(p).less(toVector(n))
			if v.dot(toVector(s.A).less(toVector(n))).Sign() > 0 || v.dot(toVector(s.B).less(toVector(n))).Sign() > 0 {
				t.Errorf("Nearest(%s, %s) = %s, which is not the nearest point", show(p), showSeg(s), show(n))
			}
		}
	}
}

func TestP7_6(t *testing.T) {
	pairs(func(p, q api.Point) {
		v := toVector(p).less(toVector(q))
		if d := plane.Distance2(p, q); d != rat(v.dot(v).RatString()) {
			t.Errorf("Distance2(%s, %s) = %s", show(p), show(q), rational.Print(d))
		}
	})
	for _, c := range [][3]string{{"0 1", "0 0 2 1", "4/5"}, {"9 9", "0 0 2 0", "130"}, {"1 5", "0 0 4 0", "25"}, {"1 1", "0 0 3 3", "0"}, {"5 7", "2 3 2 3", "25"}, {"1/2 0", "0 1 1 1", "1"}} {
		if d := plane.PointSegment2(point(c[0]), seg(c[1])); d != rat(c[2]) {
			t.Errorf("PointSegment2(%s, %s) = %s; want %s", c[0], c[1], rational.Print(d), c[2])
		}
	}
	for _, c := range [][3]string{
		{"0 0 4 0", "2 1 2 5", "1"}, {"0 0 4 4", "0 4 4 0", "0"}, {"0 0 1 0", "4 4 4 9", "25"}, {"0 0 4 0", "0 3 4 3", "9"}, {"0 0 4 0", "6 0 9 0", "4"}, {"0 0 4 0", "4 0 4 1", "0"}, {"0 0 4 0", "2 0 6 0", "0"}, {"0 0 0 0", "3 4 3 4", "25"}, {"0 1 0 1", "0 0 2 1", "4/5"}, {"0 0 2 1", "0 1 -5 2", "4/5"}, {"1 -2 1 -1", "0 0 2 1", "9/5"},
	} {
		for _, pair := range [][2]api.Segment{{seg(c[0]), seg(c[1])}, {seg(c[1]), seg(c[0])}} {
			for range 2 {
				if d := plane.Segments2(pair[0], pair[1]); d != rat(c[2]) {
					t.Errorf("Segments2(%s, %s) = %s; want %s", showSeg(pair[0]), showSeg(pair[1]), rational.Print(d), c[2])
				}
				pair[0].A, pair[0].B = pair[0].B, pair[0].A
			}
		}
	}
}

// The squared distance of two segments is that of some of their points, and no points of both that are tried are nearer.
func TestP7_6Segments(t *testing.T) {
	steps := []api.Rat{rat("0"), rat("1/4"), rat("1/3"), rat("1/2"), rat("2/3"), rat("1")}
	all := segments(grid(-1, 1))
	for k, s := range all {
		for n := k % 4; n < len(all); n += 4 {
			u := all[n]
			d := plane.Segments2(s, u)
			reached := d == api.Rat{} && plane.Meet(s, u).Kind != plane.Apart
			for _, r := range steps {
				p, q := plane.Divide(s, r), plane.Divide(u, r)
				one, other := plane.PointSegment2(p, u), plane.PointSegment2(q, s)
				reached = reached || d == one || d == other
				if rational.Compare(d, one) > 0 || rational.Compare(d, other) > 0 {
					t.Errorf("Segments2(%s, %s) = %s, but points are nearer", showSeg(s), showSeg(u), rational.Print(d))
				}
			}
			if !reached || (rational.Sign(d) == 0) != (plane.Meet(s, u).Kind != plane.Apart) {
				t.Errorf("Segments2(%s, %s) = %s, which is not reached", showSeg(s), showSeg(u), rational.Print(d))
			}
		}
	}
}

func TestP7_8Meet(t *testing.T) {
	reverse := func(s api.Segment) api.Segment { return api.Segment{A: s.B, B: s.A} }
	all := segments(points("0 0 3 3 1 1 2 5/2 1/7 13/5 -1 4 3 0"))
	for _, s := range all {
		for _, u := range all {
			m := plane.Meet(s, u)
			for _, other := range []plane.Meeting{plane.Meet(u, s), plane.Meet(reverse(s), u), plane.Meet(s, reverse(u)), plane.Meet(reverse(u), reverse(s))} {
				if other != m {
					t.Errorf("Meet(%s, %s) in another order is %d, %s", showSeg(s), showSeg(u), other.Kind, showSeg(other.Common))
				}
			}
			if m.Kind != plane.Apart && (!plane.OnSegment(m.Common.A, s) || !plane.OnSegment(m.Common.B, s) || !plane.OnSegment(m.Common.A, u) || !plane.OnSegment(m.Common.B, u)) {
				t.Errorf("Meet(%s, %s) = %s, which is not common", showSeg(s), showSeg(u), showSeg(m.Common))
			}
		}
	}
}

func TestP7_8PointSegment2(t *testing.T) {
	l := append(grid(-1, 1), points("1/7 13/5 0 0")...)
	for _, s := range segments(l) {
		for _, p := range l {
			d := plane.PointSegment2(p, s)
			if (d == api.Rat{}) != plane.OnSegment(p, s) {
				t.Errorf("PointSegment2(%s, %s) = %s", show(p), showSeg(s), rational.Print(d))
			}
			for _, r := range []string{"0", "1/5", "1/2", "3/4", "1"} {
				if rational.Compare(d, plane.Distance2(p, plane.Divide(s, rat(r)))) > 0 {
					t.Errorf("PointSegment2(%s, %s) = %s, but a point is nearer", show(p), showSeg(s), rational.Print(d))
				}
			}
		}
	}
}
