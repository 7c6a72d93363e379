package candidate_test

import (
	"math"
	"slices"
	"testing"

	"viator/api"
	"viator/candidate"
	"viator/network"
	"viator/notation"
	"viator/rational"
	"viator/towns"
)

func TestP22_1Examples(t *testing.T) {
	const (
		corner   = "1 0 0, 2 4 0, 3 4 4 | 5 1-2 8, 6 3>2 4, 7 3-1 6"
		standing = "4 2 2, 5 2 2, 6 3 2 | 2 6-5 9, 7 4-5 3, 8 5-4 3"
	)
	for _, c := range []struct {
		s    string
		road int
		p    string
		want string
	}{
		{example, 5, "1,3", "5@2 9"}, {example, 5, "-3,4", "5@0 25"}, {example, 5, "9,0", "5@8 25"}, {example, 5, "4,-1/2", "5@8 1/4"}, {example, 5, "1/3,0", "5@2/3 0"}, {example, 5, "0,0", "5@0 0"},
		// A position at a node is on the first road there.
		{corner, 6, "4,-2", "5@8 4"}, {corner, 6, "9,9", "6@0 50"}, {corner, 7, "5,5", "6@0 2"}, {corner, 7, "-1,0", "5@0 1"}, {corner, 6, "1,3", "6@1 9"}, {corner, 7, "4,0", "7@3 8"}, {corner, 7, "3,0", "7@15/4 9/2"},
		// Both nodes at one point: the position is that of From.
		{standing, 7, "2,2", "7@0 0"}, {standing, 7, "2,7/2", "7@0 9/4"}, {standing, 8, "2,2", "2@9 0"}, {standing, 2, "0,2", "2@9 4"}, {standing, 2, "5/2,0", "2@9/2 4"},
	} {
		if got, e := candidate.Nearest(town(c.s), c.road, point(c.p)); e != api.OK || show(got) != c.want {
			t.Errorf("%s: Nearest(%d, %s) = %s, %d; want %s", c.s, c.road, c.p, show(got), e, c.want)
		}
	}
}

func TestP22_1(t *testing.T) {
	for _, n := range slanted() {
		for _, r := range n.Roads {
			for _, p := range points() {
				if c, e := candidate.Nearest(n, r.Id, p); e != api.OK || !isNearest(n, r, p, c) {
					t.Errorf("%s: Nearest(%d, %v) = %s, %d", showTown(n), r.Id, p, show(c), e)
				}
			}
		}
	}
}

func TestP22_1Errors(t *testing.T) {
	for _, road := range []int{0, -5, 1, 4, 6, math.MaxInt} {
		if c, e := candidate.Nearest(town(example), road, point("1,3")); e != api.ErrNotFound || c != (candidate.Candidate{}) {
			t.Errorf("Nearest(%d) = %s, %d", road, show(c), e)
		}
	}
	if _, e := candidate.Nearest(api.Network{}, 5, point("1,3")); e != api.ErrNotFound {
		t.Errorf("Nearest on no road: %d", e)
	}
}

func TestP22_2Examples(t *testing.T) {
	const (
		star     = "1 0 0, 2 4 0, 3 0 4, 4 -4 0, 5 0 -4 | 3 1-2 4, 4 3-1 4, 5 1>4 5, 8 5>1 6"
		parallel = "1 0 0, 2 4 0 | 1 1-2 4, 2 2-1 4, 3 1-2 8"
		piled    = "1 0 0, 2 0 0, 3 0 0, 4 0 0 | 5 4-3 1, 6 2-1 1, 7 1-4 1"
	)
	for _, c := range []struct{ s, p, radius, want string }{
		{star, "0,0", "0", "3@0 0"}, {star, "0,0", "9", "3@0 0"}, {star, "1,1", "1", "3@1 1, 4@3 1"}, {star, "1,1", "7/5", "3@1 1, 4@3 1"}, {star, "1,1", "3/2", "3@1 1, 4@3 1, 3@0 2"}, {star, "1,1", "99/100", ""}, {star, "0,3", "3", "4@1 0, 3@0 9"}, {star, "0,3", "-3", ""}, {star, "0,3", "-1/1000", ""}, {star, "9,3", "0", ""}, {star, "9,3", "29/5", ""}, {star, "9,3", "35/6", "3@4 34"},
		{parallel, "1,1", "1", "1@1 1, 2@3 1, 3@2 1"}, {parallel, "-1,1", "2", "1@0 2"}, {parallel, "1,0", "0", "1@1 0, 2@3 0, 3@2 0"}, {piled, "1,0", "1", "5@0 1, 6@0 1, 6@1 1"}, {piled, "1,0", "1/2", ""}, {"|", "1,1", "100000000000000000000000", ""}, {"7 1 1 |", "1,1", "1", ""},
	} {
		if got := candidate.Scan(town(c.s), point(c.p), rat(c.radius)); show(got...) != c.want {
			t.Errorf("%s: Scan(%s, %s) = %s; want %s", c.s, c.p, c.radius, show(got...), c.want)
		}
	}
}

// radii are some radii.
func radii() []api.Rat {
	var list []api.Rat
	for _, s := range []string{"-1", "-1/100000000000000000000", "0", "1/100", "1/2", "1", "4/3", "2", "5", "12", "100000000000000000000", "1000000000000000000000001"} {
		list = append(list, rat(s))
	}
	return list
}

func TestP22_2(t *testing.T) {
	for _, n := range slanted() {
		for _, p := range points() {
			for _, radius := range radii() {
				want := near(n, p, radius)
				if got := candidate.Scan(n, p, radius); !slices.Equal(got, want) {
					t.Errorf("%s: Scan(%v, %s) = %s; want %s", showTown(n), p, rational.Print(radius), show(got...), show(want...))
				}
			}
		}
	}
}

// A position is a candidate for its point, with the distance 0, if the nodes of its road are at different points.
func TestP22_6Points(t *testing.T) {
	for _, n := range slanted() {
		for _, p := range towns.Places(n) {
			r, _ := network.Road(n, p.Road)
			if s := line(n, r); s.A == s.B {
				continue
			}
			q, _ := network.Point(n, p)
			normal, _ := network.Normal(n, p)
			if !slices.Contains(candidate.Scan(n, q, api.Rat{}), candidate.Candidate{Place: normal}) {
				t.Errorf("%s: %s is no candidate", showTown(n), showPlace(p))
			}
		}
	}
}

func TestP22_6Arguments(t *testing.T) {
	n := town(example)
	candidate.Nearest(n, 5, point("1,3"))
	list := candidate.Scan(n, point("1,3"), rat("9"))
	clear(list[:cap(list)])
	if showTown(n) != example || show(candidate.Scan(n, point("1,3"), rat("9"))...) != "5@2 9" {
		t.Errorf("the argument is %s", showTown(n))
	}
}

// Nothing is specified for networks that are not valid, and for numbers that are not canonical; but nothing panics, and everything ends.
func TestInvalid(t *testing.T) {
	for _, s := range []string{"1 1048577 0", "1 -1048577 0", "1 0 1048577", "1 0 -1048577", "1 0 0, 2 9223372036854775807 0 | 1 1-2 1", "1 -9223372036854775808 -9223372036854775808, 2 9223372036854775807 9223372036854775807 | 1 2-1 1"} {
		if g, e := candidate.New(town(s), 1); g != nil || e != api.ErrRange {
			t.Errorf("%s: New: %d", s, e)
		}
	}
	networks := []api.Network{
		town("1 0 0 | 5 1-2 8, 5 2>1 -3"), town("| 7 3-3 0, 2 0-0 1"), town("1 9223372036854775807 -9223372036854775808, 2 -9223372036854775808 0 | 1 1-2 1"), town("1 0 0, 1 5 5, 2 1048577 0 | 1 2-1 1, 1 1-2 9223372036854775807"),
	}
	wrong := []api.Point{point("1,3")}
	for _, x := range notation.Wrong() {
		wrong = append(wrong, api.Point{X: x.P, Y: x.R}, api.Point{Y: x.P}, api.Point{X: api.Rat{Num: rat("1").Num, Den: x.P.Num}})
	}
	for _, n := range append(networks, town(example)) {
		for _, p := range wrong {
			for _, r := range wrong {
				candidate.Nearest(n, 1, p)
				candidate.Scan(n, p, r.X)
				for _, size := range []int{1, 1 << 20} {
					g, _ := candidate.New(n, size)
					g.Find(p, r.X)
					g.Best(p, r.X, 3)
					g.Closest(p)
				}
			}
		}
	}
}
