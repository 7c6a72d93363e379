package network_test

import (
	"math"
	"slices"
	"testing"

	"viator/api"
	"viator/network"
	"viator/notation"
	"viator/towns"
)

// The strings of the tests are those of package notation.
var (
	rat       = notation.Rat
	town      = notation.Network
	showTown  = notation.ShowNetwork
	place     = notation.Place
	showPlace = notation.ShowPlace
)

// row returns a network with some nodes in a row, and with roads between neighbouring ones, back and forth again and again.
func row(nodes, roads int) api.Network {
	var n api.Network
	for k := range nodes {
		n.Nodes = append(n.Nodes, api.Node{Id: k + 1, X: k})
	}
	for k := range roads {
		n.Roads = append(n.Roads, api.Road{Id: k + 1, From: k%(nodes-1) + 1, To: k%(nodes-1) + 2, Length: 1, Limit: 1})
	}
	return n
}

func TestP20_1Check(t *testing.T) {
	for _, c := range []struct {
		s string
		e api.Errno
	}{
		{"|", api.OK}, {"1 0 0 |", api.OK}, {towns.Example, api.OK}, {"1 0 0, 1073741824 0 0 | 1 1-1073741824 1, 1073741824 1>1073741824 1", api.OK}, {"1 1048576 -1048576, 2 1048576 -1048575 | 7 2-1 1 1048576", api.OK},
		{"0 0 0 |", api.ErrId}, {"-1 0 0 |", api.ErrId}, {"1073741825 0 0 |", api.ErrId}, {"1 0 0, 1073741825 0 0 |", api.ErrId}, {"2 0 0, 0 0 0 |", api.ErrId}, {"2 0 0, 2 0 0 |", api.ErrDuplicate}, {"1 0 0, 2 0 0, 2 5 5 |", api.ErrDuplicate}, {"2 0 0, 1 0 0 |", api.ErrOrder}, {"1 0 0, 3 0 0, 2 0 0 |", api.ErrOrder}, {"1 0 0, 3 0 0, 1 0 0 |", api.ErrOrder},
		{"1 1048577 0 |", api.ErrRange}, {"1 -1048577 0 |", api.ErrRange}, {"1 0 1048577 |", api.ErrRange}, {"1 0 -1048577 |", api.ErrRange}, {"1 -1048576 1048576 |", api.OK},
		// The nodes in order, and for each one the errors in order; then the roads.
		{"1 0 1048577, 0 0 0 |", api.ErrRange}, {"0 0 1048577, 1 0 0 |", api.ErrId}, {"3 0 0, 3 0 1048577 |", api.ErrDuplicate}, {"3 0 0, 2 0 1048577 |", api.ErrOrder}, {"3 0 0, 2 0 0, 0 0 0 |", api.ErrOrder}, {"1 0 0, 2 0 1048577 | 0 1-1 0", api.ErrRange},
		{"1 0 0, 2 0 0 | 0 1-2 1", api.ErrId}, {"1 0 0, 2 0 0 | 1073741825 1-2 1", api.ErrId}, {"1 0 0, 2 0 0 | 5 1-2 1, 5 1-2 1", api.ErrDuplicate}, {"1 0 0, 2 0 0 | 5 1-2 1, 4 1-2 1", api.ErrOrder}, {"1 0 0, 2 0 0 | 5 1-2 1, 0 1-2 1", api.ErrId},
		{"1 0 0, 2 0 0 | 5 1-3 1", api.ErrNotFound}, {"1 0 0, 2 0 0 | 5 3-1 1", api.ErrNotFound}, {"1 0 0, 2 0 0 | 5 0-2 1", api.ErrNotFound}, {"| 5 1-2 1", api.ErrNotFound}, {"1 0 0, 2 0 0 | 5 3-3 1", api.ErrNotFound}, {"1 0 0, 2 0 0 | 5 2-2 1", api.ErrConflict}, {"1 0 0, 2 0 0 | 5 2>2 0 0", api.ErrConflict},
		{"1 0 0, 2 0 0 | 5 1-2 1 0", api.ErrRange}, {"1 0 0, 2 0 0 | 5 1-2 1 -1", api.ErrRange}, {"1 0 0, 2 0 0 | 5 1-2 1 1048577", api.ErrRange}, {"1 0 0, 2 0 0 | 5 1-2 0", api.ErrRange}, {"1 0 0, 2 0 0 | 5 1-2 -1", api.ErrRange}, {"1 0 0, 2 0 0 | 5 1-2 1073741824", api.OK}, {"1 0 0, 2 0 0 | 5 1-2 1073741825", api.ErrRange}, {"1 0 0, 2 0 0 | 5 1-2 9223372036854775807", api.ErrRange}, {"1 0 0, 2 0 0 | 5 1-2 -9223372036854775808", api.ErrRange},
		{"1 0 0, 2 3 4 | 5 1-2 4", api.ErrRange}, {"1 0 0, 2 3 4 | 5 1-2 5", api.OK}, {"1 0 0, 2 3 4 | 5 1-2 -5", api.ErrRange}, {"1 0 0, 2 1 1 | 5 1-2 1", api.ErrRange}, {"1 0 0, 2 -1 1 | 5 1-2 2", api.OK}, {"1 0 0, 2 1 0 | 5 1-2 4294967296", api.ErrRange},
		{"1 -1048576 -1048576, 2 1048576 1048576 | 5 1-2 2965820", api.ErrRange}, {"1 -1048576 -1048576, 2 1048576 1048576 | 5 1-2 2965821", api.OK}, {"1 1048576 -1048576, 2 -1048576 1048576 | 5 1>2 2965820", api.ErrRange}, {"1 1048576 -1048576, 2 -1048576 1048576 | 5 1>2 2965821", api.OK},
		{"1 0 0, 2 0 0 | 5 1-2 0, 0 1-2 1", api.ErrRange}, {"1 0 0, 2 0 0 | 0 1-3 1, 5 1-2 0", api.ErrId}, {"1 0 0, 2 0 0 | 5 1-2 1, 5 3-3 1", api.ErrDuplicate}, {"1 0 0, 2 0 0 | 5 1-2 1, 4 3-3 1", api.ErrOrder}, {"1 0 0, 2 0 0 | 5 1-1 0, 5 1-2 1", api.ErrConflict},
	} {
		if e := network.Check(town(c.s)); e != c.e {
			t.Errorf("Check(%s) = %d; want %d", c.s, e, c.e)
		}
	}
}

func TestP20_1Limits(t *testing.T) {
	for _, c := range []struct {
		nodes, roads int
		e            api.Errno
	}{
		{256, 1024, api.OK}, {257, 0, api.ErrLimit}, {257, 1024, api.ErrLimit}, {2, 1025, api.ErrLimit}, {256, 1025, api.ErrLimit},
	} {
		if e := network.Check(row(c.nodes, c.roads)); e != c.e {
			t.Errorf("Check of %d nodes and %d roads = %d", c.nodes, c.roads, e)
		}
	}
	if e := network.Check(api.Network{Nodes: make([]api.Node, 256), Roads: make([]api.Road, 1025)}); e != api.ErrLimit {
		t.Errorf("too many roads: %d", e)
	}
}

func TestP20_2(t *testing.T) {
	for _, n := range towns.Networks() {
		for id := -2; id < 50; id++ {
			checkFound(t, n, id)
			var out, in []int
			for _, r := range n.Roads {
				if r.From == id || !r.OneWay && r.To == id {
					out = append(out, r.Id)
				}
				if r.To == id || !r.OneWay && r.From == id {
					in = append(in, r.Id)
				}
			}
			if got := network.Out(n, id); !slices.Equal(got, out) {
				t.Errorf("%s: Out(%d) = %v", showTown(n), id, got)
			}
			if got := network.In(n, id); !slices.Equal(got, in) {
				t.Errorf("%s: In(%d) = %v", showTown(n), id, got)
			}
		}
	}
	n := town(towns.Example)
	for node, want := range map[int][2][]int{1: {{1}, {1, 3}}, 2: {{1, 2}, {1}}, 3: {{3}, {2}}, 0: {}, 4: {}, math.MaxInt: {}} {
		if out, in := network.Out(n, node), network.In(n, node); !slices.Equal(out, want[0]) || !slices.Equal(in, want[1]) {
			t.Errorf("Out and In of %d are %v and %v", node, out, in)
		}
	}
}

// checkFound compares what Node and Road find with the lists.
func checkFound(t *testing.T, n api.Network, id int) {
	t.Helper()
	var node api.Node
	k := slices.IndexFunc(n.Nodes, func(v api.Node) bool { return v.Id == id })
	if k >= 0 {
		node = n.Nodes[k]
	}
	if got, found := network.Node(n, id); got != node || found != (k >= 0) {
		t.Errorf("%s: Node(%d) = %v, %v", showTown(n), id, got, found)
	}
	var road api.Road
	k = slices.IndexFunc(n.Roads, func(r api.Road) bool { return r.Id == id })
	if k >= 0 {
		road = n.Roads[k]
	}
	if got, found := network.Road(n, id); got != road || found != (k >= 0) {
		t.Errorf("%s: Road(%d) = %v, %v", showTown(n), id, got, found)
	}
}

func TestP20_7Reverse(t *testing.T) {
	for s, want := range map[string]string{"|": "|", "4 1 2 |": "4 1 2 |", towns.Example: "1 0 0, 2 3 4, 3 3 0 | 1 2-1 5, 2 3>2 6, 3 1>3 3", "1 0 0, 2 3 4 | 7 2>1 8 9": "1 0 0, 2 3 4 | 7 1>2 8 9"} {
		if got := network.Reverse(town(s)); showTown(got) != want {
			t.Errorf("Reverse(%s) = %s", s, showTown(got))
		}
	}
}

func TestP20_9Reverse(t *testing.T) {
	for _, n := range towns.Networks() {
		reversed := network.Reverse(n)
		if e := network.Check(reversed); e != api.OK {
			t.Errorf("Check of %s, reversed: %d", showTown(n), e)
		}
		if twice := network.Reverse(reversed); showTown(twice) != showTown(n) {
			t.Errorf("%s, reversed twice, is %s", showTown(n), showTown(twice))
		}
		for _, v := range n.Nodes {
			if !slices.Equal(network.Out(reversed, v.Id), network.In(n, v.Id)) || !slices.Equal(network.In(reversed, v.Id), network.Out(n, v.Id)) {
				t.Errorf("%s: Out and In of %d in the reversed network", showTown(n), v.Id)
			}
		}
	}
}

func TestP20_9Arguments(t *testing.T) {
	n := town(towns.Example)
	n.Nodes, n.Roads = slices.Grow(n.Nodes, 9), slices.Grow(n.Roads, 9)
	p, q := place("2@1"), place("1@5")
	network.Check(n)
	network.Node(n, 1)
	network.Road(n, 1)
	network.Point(n, p)
	network.Normal(n, q)
	network.Same(n, p, q)
	network.Ahead(n, p, q)
	network.At(n, 2)
	reversed := network.Reverse(n)
	clear(reversed.Nodes)
	clear(reversed.Roads)
	exits, _ := network.Exits(n, p)
	clear(exits)
	groups := network.Groups(n)
	for _, l := range append(groups, network.Out(n, 2), network.In(n, 2), network.Reach(n, 2)) {
		clear(l[:cap(l)])
	}
	if showTown(n) != towns.Example {
		t.Errorf("the argument is %s", showTown(n))
	}
}

// Nothing is specified for networks that are not valid, but no function may panic or go on for ever.
func TestP1NotValid(t *testing.T) {
	networks := []api.Network{
		town("1 0 0, 1 0 0, 2 5 5 | 5 1-2 0, 5 2-1 -7, 4 1-1 1, 9 7-8 3, 3 1-9 2"), town("| 5 1-2 0, 6 0-0 0"), row(600, 3000),
		{Nodes: []api.Node{{Id: math.MinInt, X: math.MaxInt, Y: math.MinInt}, {Id: math.MaxInt, X: math.MinInt}}, Roads: []api.Road{{Id: math.MinInt, From: math.MinInt, To: math.MaxInt, Length: math.MinInt}, {Id: 1, From: math.MaxInt, To: math.MinInt, Length: math.MaxInt, OneWay: true}}},
	}
	for _, n := range networks {
		network.Check(n)
		network.Groups(n)
		network.Reverse(n)
		for _, id := range []int{math.MinInt, 0, 1, 2, 5, 6, math.MaxInt} {
			network.Out(n, id)
			network.In(n, id)
			network.At(n, id)
			network.Reach(n, id)
			for _, wrong := range append(notation.Wrong(), api.Real{}) {
				p, q := api.Place{Road: id, Offset: wrong.P}, api.Place{Road: 5, Offset: wrong.R}
				network.Point(n, p)
				network.NodeAt(n, p)
				network.Same(n, p, q)
				network.Exits(n, p)
				network.Entries(n, p)
				network.Ahead(n, p, q)
				network.Mirror(n, p)
			}
		}
	}
}
