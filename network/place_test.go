package network_test

import (
	"cmp"
	"slices"
	"strconv"
	"strings"
	"testing"

	"viator/api"
	"viator/lists"
	"viator/network"
	"viator/notation"
	"viator/plane"
	"viator/rational"
	"viator/towns"
)

// everywhere calls a function with networks and their positions.
func everywhere(f func(n api.Network, p api.Place)) {
	for _, n := range towns.Networks() {
		for _, p := range towns.Places(n) {
			f(n, p)
		}
	}
}

// same tells whether two positions are the same: whether no way is needed.
func same(n api.Network, p, q api.Place) bool {
	length, found := towns.Lengths(n, nil, p)[q]
	return found && length == api.Rat{}
}

// showEnds returns a string like "1 5/2, 3 0".
func showEnds(l []network.End) string {
	return strings.Join(lists.Convert(l, func(e network.End) string {
		return strconv.Itoa(e.Node) + " " + rational.Print(e.Length)
	}), ", ")
}

// wrongPlaces returns positions that are not valid in the network of the examples, with their errors.
func wrongPlaces() map[api.Place]api.Errno {
	wrong := map[api.Place]api.Errno{}
	for s, e := range map[string]api.Errno{
		"0@0": api.ErrNotFound, "4@0": api.ErrNotFound, "4@-1": api.ErrNotFound, "-1@1": api.ErrNotFound, "1@-1": api.ErrRange, "1@-1/1000000000000": api.ErrRange, "1@6": api.ErrRange, "1@5000000000001/1000000000000": api.ErrRange, "3@4": api.ErrRange, "3@18446744073709551616": api.ErrRange,
	} {
		wrong[place(s)] = e
	}
	for _, x := range notation.Wrong() {
		if rational.Check(x.P) != api.OK {
			wrong[api.Place{Road: 1, Offset: x.P}] = api.ErrForm
			wrong[api.Place{Road: 4, Offset: x.P}] = api.ErrNotFound
		}
	}
	wrong[api.Place{Road: 1, Offset: api.Rat{Num: rational.FromInt(-8).Num, Den: rational.FromInt(4).Num}}] = api.ErrForm
	return wrong
}

func TestP20_3CheckPlace(t *testing.T) {
	n := town(towns.Example)
	for _, s := range []string{"1@0", "1@5", "1@1/3", "2@6", "3@3", "3@2999999999999/1000000000000"} {
		if e := network.CheckPlace(n, place(s)); e != api.OK {
			t.Errorf("CheckPlace(%s) = %d", s, e)
		}
	}
	for p, want := range wrongPlaces() {
		if e := network.CheckPlace(n, p); e != want {
			t.Errorf("CheckPlace(%v) = %d; want %d", p, e, want)
		}
	}
}

// Each function that is given a position has its error, and no other result.
func TestP20_3Errors(t *testing.T) {
	n := town(towns.Example)
	for p, want := range wrongPlaces() {
		if point, e := network.Point(n, p); e != want || point != (api.Point{}) {
			t.Errorf("Point(%v) = %v, %d", p, point, e)
		}
		if q, e := network.Normal(n, p); e != want || q != (api.Place{}) {
			t.Errorf("Normal(%v) = %v, %d", p, q, e)
		}
		if q, e := network.Mirror(n, p); e != want || q != (api.Place{}) {
			t.Errorf("Mirror(%v) = %v, %d", p, q, e)
		}
		if l, e := network.Exits(n, p); e != want || len(l) > 0 {
			t.Errorf("Exits(%v) = %v, %d", p, l, e)
		}
		if l, e := network.Entries(n, p); e != want || len(l) > 0 {
			t.Errorf("Entries(%v) = %v, %d", p, l, e)
		}
		if node, at := network.NodeAt(n, p); at || node != 0 {
			t.Errorf("NodeAt(%v) = %d, %v", p, node, at)
		}
		for _, q := range []api.Place{p, place("1@0"), place("1@1")} {
			if network.Same(n, p, q) || network.Same(n, q, p) {
				t.Errorf("%v and %v are the same", p, q)
			}
			if length, found := network.Ahead(n, p, q); found || length != (api.Rat{}) {
				t.Errorf("Ahead(%v, %v) = %v, %v", p, q, length, found)
			}
			if length, found := network.Ahead(n, q, p); found || length != (api.Rat{}) {
				t.Errorf("Ahead(%v, %v) = %v, %v", q, p, length, found)
			}
		}
	}
}

func TestP20_3Point(t *testing.T) {
	n := town(towns.Example + ", 4 1>3 7")
	for s, want := range map[string]string{"1@0": "0,0", "1@5": "3,4", "1@5/2": "3/2,2", "2@0": "3,4", "2@6": "3,0", "2@1": "3,10/3", "3@1": "2,0", "4@1": "3/7,0", "4@13/2": "39/14,0"} {
		if p, e := network.Point(n, place(s)); e != api.OK || p != notation.Point(want) {
			t.Errorf("Point(%s) = %v, %d", s, p, e)
		}
	}
	wide := town("1 -1048576 1048576, 2 1048576 1048575, 3 1048576 1048575 | 1 1-2 1073741824, 2 2-3 5")
	for s, want := range map[string]string{"1@1": "-536870911/512,1125899906842623/1073741824", "2@0": "1048576,1048575", "2@3": "1048576,1048575"} {
		if p, e := network.Point(wide, place(s)); e != api.OK || p != notation.Point(want) {
			t.Errorf("Point(%s) = %v, %d", s, p, e)
		}
	}
	// The distances to both nodes have the ratio of the offset and what is left.
	everywhere(func(n api.Network, p api.Place) {
		point, e := network.Point(n, p)
		road, _ := network.Road(n, p.Road)
		from, _ := network.Node(n, road.From)
		to, _ := network.Node(n, road.To)
		line := api.Segment{A: plane.At(from.X, from.Y), B: plane.At(to.X, to.Y)}
		left := rational.Sub(rational.FromInt(road.Length), p.Offset)
		before := rational.Mul(plane.Distance2(line.A, point), rational.Mul(left, left))
		behind := rational.Mul(plane.Distance2(line.B, point), rational.Mul(p.Offset, p.Offset))
		if e != api.OK || before != behind || !plane.OnSegment(point, line) {
			t.Errorf("%s: Point(%s) = %v, %d", showTown(n), showPlace(p), point, e)
		}
	})
}

func TestP20_4At(t *testing.T) {
	for _, c := range []struct {
		s    string
		node int
		want string
		e    api.Errno
	}{
		{towns.Example, 1, "1@0", api.OK}, {towns.Example, 2, "1@5", api.OK}, {towns.Example, 3, "2@6", api.OK}, {towns.Example, 4, "0@0", api.ErrNotFound}, {towns.Example, 0, "0@0", api.ErrNotFound}, {"|", 0, "0@0", api.ErrNotFound}, {"7 0 0 |", 7, "0@0", api.ErrGap}, {"7 0 0, 8 0 0, 9 0 0 | 4 8>9 1, 5 9>8 2", 7, "0@0", api.ErrGap}, {"7 0 0, 8 0 0, 9 0 0 | 4 8>9 1, 5 9>8 2", 8, "4@0", api.OK}, {"7 0 0, 8 0 0, 9 0 0 | 4 9>8 1, 5 8>9 2", 8, "4@1", api.OK}, {"7 0 0, 8 0 0, 9 0 0 | 4 9>8 1, 5 8>9 2", 5, "0@0", api.ErrNotFound},
	} {
		if p, e := network.At(town(c.s), c.node); e != c.e || p != place(c.want) {
			t.Errorf("%s: At(%d) = %s, %d", c.s, c.node, showPlace(p), e)
		}
	}
	for _, n := range towns.Networks() {
		for _, v := range n.Nodes {
			var ends []api.Place
			for _, r := range n.Roads {
				if r.From == v.Id {
					ends = append(ends, api.Place{Road: r.Id})
				}
				if r.To == v.Id {
					ends = append(ends, api.Place{Road: r.Id, Offset: rational.FromInt(r.Length)})
				}
			}
			p, e := network.At(n, v.Id)
			if len(ends) == 0 && e != api.ErrGap || len(ends) > 0 && (e != api.OK || p != ends[0]) {
				t.Errorf("%s: At(%d) = %s, %d", showTown(n), v.Id, showPlace(p), e)
			}
			for _, end := range ends {
				if node, at := network.NodeAt(n, end); node != v.Id || !at {
					t.Errorf("%s: NodeAt(%s) = %d, %v", showTown(n), showPlace(end), node, at)
				}
				if q, e := network.Normal(n, end); e != api.OK || q != p {
					t.Errorf("%s: Normal(%s) = %s, %d", showTown(n), showPlace(end), showPlace(q), e)
				}
			}
		}
	}
}

func TestP20_4Normal(t *testing.T) {
	everywhere(func(n api.Network, p api.Place) {
		road, _ := network.Road(n, p.Road)
		inside := rational.Sign(p.Offset) > 0 && rational.Compare(p.Offset, rational.FromInt(road.Length)) < 0
		node, at := network.NodeAt(n, p)
		if at == inside || !at && node != 0 {
			t.Errorf("%s: NodeAt(%s) = %d, %v", showTown(n), showPlace(p), node, at)
		}
		normal, e := network.Normal(n, p)
		if e != api.OK || !same(n, p, normal) || inside && normal != p {
			t.Errorf("%s: Normal(%s) = %s, %d", showTown(n), showPlace(p), showPlace(normal), e)
		}
		again, e := network.Normal(n, normal)
		if e != api.OK || again != normal {
			t.Errorf("%s: Normal(%s) = %s, %d", showTown(n), showPlace(normal), showPlace(again), e)
		}
		for _, q := range towns.Places(n) {
			if network.Same(n, p, q) != same(n, p, q) {
				t.Errorf("%s: Same(%s, %s) is not %v", showTown(n), showPlace(p), showPlace(q), same(n, p, q))
			}
		}
	})
}

func TestP20_5Examples(t *testing.T) {
	n := town(towns.Example)
	for s, want := range map[string][2]string{
		"1@5/2": {"1 5/2, 2 5/2", "1 5/2, 2 5/2"}, "1@1": {"1 1, 2 4", "1 1, 2 4"}, "2@1": {"3 5", "2 1"}, "3@1/3": {"1 8/3", "3 1/3"}, "1@0": {"1 0", "1 0"}, "1@5": {"2 0", "2 0"}, "2@0": {"2 0", "2 0"}, "2@6": {"3 0", "3 0"}, "3@3": {"1 0", "1 0"},
	} {
		exits, e := network.Exits(n, place(s))
		entries, f := network.Entries(n, place(s))
		if e != api.OK || f != api.OK || showEnds(exits) != want[0] || showEnds(entries) != want[1] {
			t.Errorf("Exits and Entries of %s are %s and %s", s, showEnds(exits), showEnds(entries))
		}
	}
	// The ids decide on the order, not which end of the road it is.
	n = town("5 0 0, 6 0 0 | 1 6-5 3")
	exits, _ := network.Exits(n, place("1@1"))
	entries, _ := network.Entries(n, place("1@1"))
	if showEnds(exits) != "5 2, 6 1" || showEnds(entries) != "5 2, 6 1" {
		t.Errorf("Exits and Entries are %s and %s", showEnds(exits), showEnds(entries))
	}
}

func TestP20_5(t *testing.T) {
	everywhere(func(n api.Network, p api.Place) {
		var exits, entries []network.End
		road, _ := network.Road(n, p.Road)
		along := []api.Road{road}
		if node, at := network.NodeAt(n, p); at {
			exits, entries = []network.End{{Node: node}}, []network.End{{Node: node}}
		} else {
			for node, q := range map[int]api.Place{road.From: {Road: road.Id}, road.To: {Road: road.Id, Offset: rational.FromInt(road.Length)}} {
				if length, found := towns.Lengths(n, along, p)[q]; found {
					exits = append(exits, network.End{Node: node, Length: length})
				}
				if length, found := towns.Lengths(n, along, q)[p]; found {
					entries = append(entries, network.End{Node: node, Length: length})
				}
			}
		}
		byNode := func(a, b network.End) int { return cmp.Compare(a.Node, b.Node) }
		slices.SortFunc(exits, byNode)
		slices.SortFunc(entries, byNode)
		if got, e := network.Exits(n, p); e != api.OK || !slices.Equal(got, exits) {
			t.Errorf("%s: Exits(%s) = %s, %d; want %s", showTown(n), showPlace(p), showEnds(got), e, showEnds(exits))
		}
		if got, e := network.Entries(n, p); e != api.OK || !slices.Equal(got, entries) {
			t.Errorf("%s: Entries(%s) = %s, %d; want %s", showTown(n), showPlace(p), showEnds(got), e, showEnds(entries))
		}
	})
}

func TestP20_6Examples(t *testing.T) {
	const parallel = "1 0 0, 2 0 0 | 4 1-2 3, 5 2>1 2, 6 2-1 2, 7 1>2 1"
	for _, c := range []struct {
		s, p, q, want string
	}{
		{towns.Example, "1@1", "1@4", "3"}, {towns.Example, "1@4", "1@1", "3"}, {towns.Example, "2@1", "2@3/2", "1/2"}, {towns.Example, "2@3/2", "2@1", ""}, {towns.Example, "2@1", "3@0", "5"}, {towns.Example, "3@0", "2@1", ""}, {towns.Example, "1@5", "2@1", "1"}, {towns.Example, "2@1", "1@5", ""}, {towns.Example, "1@1", "2@1", ""}, {towns.Example, "1@0", "2@6", ""}, {towns.Example, "2@6", "1@0", "3"}, {towns.Example, "3@3", "1@0", "0"}, {towns.Example, "2@3/2", "2@3/2", "0"},
		{parallel, "4@0", "4@3", "1"}, {parallel, "4@3", "4@0", "2"}, {parallel, "4@1", "4@3", "2"}, {parallel, "4@1", "5@0", "2"}, {parallel, "5@0", "4@1", "2"}, {parallel, "7@1/2", "4@0", ""}, {parallel, "4@0", "7@1/2", "1/2"},
	} {
		length, found := network.Ahead(town(c.s), place(c.p), place(c.q))
		if found != (c.want != "") || found && length != rat(c.want) || !found && length != (api.Rat{}) {
			t.Errorf("%s: Ahead(%s, %s) = %v, %v", c.s, c.p, c.q, length, found)
		}
	}
}

func TestP20_6(t *testing.T) {
	everywhere(func(n api.Network, p api.Place) {
		want := map[api.Place]api.Rat{}
		for k := range n.Roads {
			for q, length := range towns.Lengths(n, n.Roads[k:k+1], p) {
				if least, found := want[q]; !found || rational.Compare(length, least) < 0 {
					want[q] = length
				}
			}
		}
		for _, q := range towns.Places(n) {
			length, found := want[q]
			if got, ahead := network.Ahead(n, p, q); ahead != found || got != length {
				t.Errorf("%s: Ahead(%s, %s) = %v, %v", showTown(n), showPlace(p), showPlace(q), got, ahead)
			}
		}
	})
}

func TestP20_7Mirror(t *testing.T) {
	n := town(towns.Example)
	for s, want := range map[string]string{"2@1": "2@5", "1@0": "1@5", "1@5": "1@0", "3@1/3": "3@8/3"} {
		if q, e := network.Mirror(n, place(s)); e != api.OK || q != place(want) {
			t.Errorf("Mirror(%s) = %s, %d", s, showPlace(q), e)
		}
	}
}

func TestP20_9Places(t *testing.T) {
	everywhere(func(n api.Network, p api.Place) {
		reversed := network.Reverse(n)
		point, _ := network.Point(n, p)
		mirrored, e := network.Mirror(n, p)
		if other, f := network.Point(reversed, mirrored); e != api.OK || f != api.OK || other != point {
			t.Errorf("%s: the point of %s, mirrored, is %v", showTown(n), showPlace(p), other)
		}
		if again, e := network.Mirror(reversed, mirrored); e != api.OK || again != p {
			t.Errorf("%s: %s, mirrored twice, is %s", showTown(n), showPlace(p), showPlace(again))
		}
		exits, _ := network.Exits(reversed, mirrored)
		entries, _ := network.Entries(n, p)
		if !slices.Equal(exits, entries) {
			t.Errorf("%s: the Exits of %s, mirrored, are %s", showTown(n), showPlace(p), showEnds(exits))
		}
		for _, q := range towns.Places(n) {
			if other, _ := network.Point(n, q); network.Same(n, p, q) && other != point {
				t.Errorf("%s: the points of %s and %s", showTown(n), showPlace(p), showPlace(q))
			}
			back, _ := network.Mirror(n, q)
			length, found := network.Ahead(n, p, q)
			if other, also := network.Ahead(reversed, back, mirrored); also != found || other != length {
				t.Errorf("%s: Ahead of %s and %s, mirrored, is %v, %v", showTown(n), showPlace(p), showPlace(q), other, also)
			}
		}
	})
}
