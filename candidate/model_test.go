package candidate_test

import (
	"cmp"
	"slices"
	"strings"

	"viator/api"
	"viator/candidate"
	"viator/lists"
	"viator/network"
	"viator/notation"
	"viator/plane"
	"viator/rational"
	"viator/towns"
)

// The strings of the tests are those of package notation.
var (
	rat       = notation.Rat
	point     = notation.Point
	town      = notation.Network
	showTown  = notation.ShowNetwork
	place     = notation.Place
	showPlace = notation.ShowPlace
)

// example is the network of the examples.
const example = "1 0 0, 2 4 0 | 5 1-2 8"

// show returns a string like "5@2 9, 6@1 9", with the positions and the squares of their distances.
func show(l ...candidate.Candidate) string {
	return strings.Join(lists.Convert(l, func(c candidate.Candidate) string {
		return showPlace(c.Place) + " " + rational.Print(c.Distance2)
	}), ", ")
}

// slanted returns networks with larger coordinates, also negative ones, beside those of package towns.
func slanted() []api.Network {
	list := towns.Networks()
	for _, s := range []string{
		"1 -7 3, 2 5 -4, 3 0 9, 4 -3 -3, 5 -3 -3 | 1 1-2 14, 2 2>3 14, 3 3-4 13, 4 4-5 1, 5 4>1 8, 6 1-4 9, 7 5-3 13", "3 -6 -6, 5 6 6, 8 -6 6, 9 6 -6, 11 0 0 | 2 3-5 17, 3 8>9 18, 4 5-8 12, 5 9-5 12, 9 11>3 9, 10 11-8 20", "1 -5 2, 2 7 2, 3 3 -8, 4 3 11 | 1 1-2 12, 2 4-3 19, 3 2>4 10, 4 3-1 13, 5 2-1 13", "1 -9 8, 2 -8 8 | 3 1-2 1", "1 9 -8, 2 8 -8 | 3 1-2 1",
	} {
		list = append(list, town(s))
	}
	return list
}

// points are some points on roads, near them and far away.
func points() []api.Point {
	return lists.Convert(strings.Fields("0,0 1,0 1/2,1/2 0,1/3 3/2,-1 -2,5 2,1 -1,-1 7/3,4 100000000000000000000,-3 -5/7,-1000000000000000000000000 -20000000000000000000,1 3,3000000000000000000000 -8,7 17/2,-8"), point)
}

// line returns the segment of a road.
func line(n api.Network, r api.Road) api.Segment {
	from, _ := network.Node(n, r.From)
	to, _ := network.Node(n, r.To)
	return api.Segment{A: plane.At(from.X, from.Y), B: plane.At(to.X, to.Y)}
}

// isNearest tells whether a candidate is the nearest position on a road to a point: it lies there, and no point of the segment lies in a direction that leads nearer.
func isNearest(n api.Network, r api.Road, p api.Point, c candidate.Candidate) bool {
	s := line(n, r)
	q, e := network.Point(n, c.Place)
	back := plane.Sub(p, q)
	normal, _ := network.Normal(n, c.Place)
	node, at := network.NodeAt(n, c.Place)
	switch {
	case e != api.OK || normal != c.Place || c.Distance2 != plane.Distance2(p, q):
		return false
	case !plane.OnSegment(q, s) || rational.Sign(plane.Dot(back, plane.Sub(s.A, q))) > 0 || rational.Sign(plane.Dot(back, plane.Sub(s.B, q))) > 0:
		return false
	case s.A == s.B:
		return at && node == r.From
	case at:
		return node == r.From || node == r.To
	}
	return c.Place.Road == r.Id
}

// near returns the candidates for a point and a radius by the words of the chapter.
func near(n api.Network, p api.Point, radius api.Rat) []candidate.Candidate {
	var list []candidate.Candidate
	for _, r := range n.Roads {
		c, _ := candidate.Nearest(n, r.Id, p)
		within := rational.Sign(radius) >= 0 && rational.Compare(c.Distance2, rational.Mul(radius, radius)) <= 0
		if within && !slices.Contains(list, c) {
			list = append(list, c)
		}
	}
	slices.SortFunc(list, func(a, b candidate.Candidate) int {
		if order := rational.Compare(a.Distance2, b.Distance2); order != 0 {
			return order
		}
		return cmp.Or(cmp.Compare(a.Place.Road, b.Place.Road), rational.Compare(a.Place.Offset, b.Place.Offset))
	})
	return list
}

// meets tells whether the segment of a road has a point in common with a cell: an end is in it, or the segment crosses its border.
func meets(n api.Network, r api.Road, c candidate.Cell, size int) bool {
	x0, x1, y0, y1 := c.X*size, (c.X+1)*size, c.Y*size, (c.Y+1)*size
	from, _ := network.Node(n, r.From)
	if x0 <= from.X && from.X <= x1 && y0 <= from.Y && from.Y <= y1 {
		return true
	}
	corners := []api.Point{plane.At(x0, y0), plane.At(x1, y0), plane.At(x1, y1), plane.At(x0, y1)}
	for k, corner := range corners {
		if plane.Meet(line(n, r), api.Segment{A: corner, B: corners[(k+1)%4]}).Kind != plane.Apart {
			return true
		}
	}
	return false
}

// grid returns the grid of a network with cells of a size.
func grid(n api.Network, size int) *candidate.Grid {
	g, e := candidate.New(n, size)
	if e != api.OK || g == nil {
		panic(showTown(n))
	}
	return g
}
