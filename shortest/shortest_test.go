package shortest_test

import (
	"math"
	"slices"
	"testing"

	"viator/api"
	"viator/network"
	"viator/notation"
	"viator/rational"
	"viator/shortest"
	"viator/towns"
)

// lonely is the network of the examples with a node that no road reaches.
const lonely = "1 0 0, 2 3 4, 3 3 0, 9 50 0 | 1 1-2 5, 2 2>3 6, 3 3>1 3"

// lengths returns what Lengths has to return for a node.
func lengths(n api.Network, least map[[2]int]shortest.Route, node int) []int {
	var l []int
	for _, v := range n.Nodes {
		if r, found := least[[2]int{node, v.Id}]; found {
			l = append(l, r.Length)
		} else {
			l = append(l, -1)
		}
	}
	return l
}

func TestP21_1Lengths(t *testing.T) {
	n := town(lonely)
	for node, want := range map[int][]int{1: {0, 5, 11, -1}, 2: {5, 0, 6, -1}, 3: {3, 8, 0, -1}, 9: {-1, -1, -1, 0}} {
		if l, e := shortest.Lengths(n, node); e != api.OK || !slices.Equal(l, want) {
			t.Errorf("Lengths(%d) = %v, %d", node, l, e)
		}
	}
	for _, node := range []int{0, -1, 4, math.MaxInt} {
		if l, e := shortest.Lengths(n, node); e != api.ErrNotFound || len(l) > 0 {
			t.Errorf("Lengths(%d) = %v, %d", node, l, e)
		}
	}
	for _, n := range towns.Networks() {
		least := routes(n)
		for _, v := range n.Nodes {
			want := lengths(n, least, v.Id)
			if l, e := shortest.Lengths(n, v.Id); e != api.OK || !slices.Equal(l, want) {
				t.Errorf("%s: Lengths(%d) = %v, %d; want %v", showTown(n), v.Id, l, e, want)
			}
			if e := shortest.CheckLengths(n, v.Id, want); e != api.OK {
				t.Errorf("%s: CheckLengths(%d, %v) = %d", showTown(n), v.Id, want, e)
			}
		}
	}
}

// The lengths are those of the least ways between the positions of the nodes.
func TestP21_1Positions(t *testing.T) {
	for _, n := range towns.Networks() {
		for _, v := range n.Nodes {
			p, e := network.At(n, v.Id)
			if e != api.OK {
				continue
			}
			ways := towns.Lengths(n, n.Roads, p)
			l, _ := shortest.Lengths(n, v.Id)
			for k, to := range n.Nodes {
				q, _ := network.At(n, to.Id)
				length, found := ways[q]
				if found != (l[k] >= 0) || found && length != rational.FromInt(l[k]) {
					t.Errorf("%s: Lengths(%d) = %v", showTown(n), v.Id, l)
				}
			}
		}
	}
}

func TestP21_1CheckLengths(t *testing.T) {
	n := town(lonely)
	for _, c := range []struct {
		node int
		l    []int
		e    api.Errno
	}{
		{1, []int{0, 5, 11, -1}, api.OK}, {9, []int{-1, -1, -1, 0}, api.OK}, {4, nil, api.ErrNotFound}, {0, []int{0, 5, 11, -1}, api.ErrNotFound}, {1, nil, api.ErrGap}, {1, []int{0, 5, 11}, api.ErrGap}, {1, []int{0, 5, 11, -1, -1}, api.ErrGap},
		{1, []int{0, 5, 10, -1}, api.ErrCertificate}, {1, []int{0, 5, 12, -1}, api.ErrCertificate}, {1, []int{0, 5, -1, -1}, api.ErrCertificate}, {1, []int{0, 5, -2, -1}, api.ErrCertificate}, {1, []int{0, 5, 11, 0}, api.ErrCertificate}, {1, []int{0, 5, 11, 7}, api.ErrCertificate}, {1, []int{0, 5, 11, -2}, api.ErrCertificate}, {1, []int{1, 6, 12, -1}, api.ErrCertificate}, {1, []int{-1, -1, -1, -1}, api.ErrCertificate}, {1, []int{-1, 5, 11, -1}, api.ErrCertificate}, {1, []int{14, 5, 11, -1}, api.ErrCertificate}, {1, []int{0, 5, 11, math.MaxInt}, api.ErrCertificate}, {1, []int{0, 5, 11, math.MinInt}, api.ErrCertificate}, {1, []int{0, math.MaxInt, math.MinInt + 5, -1}, api.ErrCertificate}, {1, []int{math.MaxInt, math.MinInt + 4, -1, -1}, api.ErrCertificate},
		// What cannot be reached must not be said to reach others, nor a ring itself.
		{9, []int{0, 5, 11, 0}, api.ErrCertificate}, {9, []int{14, 5, 11, 0}, api.ErrCertificate}, {9, []int{3, 8, 0, 0}, api.ErrCertificate},
	} {
		if e := shortest.CheckLengths(n, c.node, c.l); e != c.e {
			t.Errorf("CheckLengths(%d, %v) = %d; want %d", c.node, c.l, e, c.e)
		}
	}
}

// Of all lists of small lengths, only the right one is accepted.
func TestP21_7Certificates(t *testing.T) {
	accepted := 0
	for _, n := range towns.Networks() {
		if len(n.Nodes) > 4 {
			continue
		}
		least := routes(n)
		for _, v := range n.Nodes {
			want := lengths(n, least, v.Id)
			l := make([]int, len(want))
			var try func(k int)
			try = func(k int) {
				if k == len(l) {
					e := shortest.CheckLengths(n, v.Id, l)
					if right := slices.Equal(l, want); right != (e == api.OK) || !right && e != api.ErrCertificate {
						t.Errorf("%s: CheckLengths(%d, %v) = %d", showTown(n), v.Id, l, e)
					}
					if e == api.OK {
						accepted++
					}
					return
				}
				for l[k] = -2; l[k] < 8; l[k]++ {
					try(k + 1)
				}
			}
			try(0)
		}
	}
	if accepted < 50 {
		t.Errorf("%d lists are accepted", accepted)
	}
}

func TestP21_2(t *testing.T) {
	n := town(lonely)
	for _, c := range []struct {
		node, most int
		want       []int
		e          api.Errno
	}{
		{3, 3, []int{1, 3}, api.OK}, {3, 2, []int{3}, api.OK}, {3, 5, []int{1, 3}, api.OK}, {3, 8, []int{1, 2, 3}, api.OK}, {3, 7, []int{1, 3}, api.OK}, {3, 0, []int{3}, api.OK}, {3, -1, nil, api.OK}, {3, math.MinInt, nil, api.OK}, {9, math.MaxInt, []int{9}, api.OK}, {2, math.MaxInt, []int{1, 2, 3}, api.OK}, {4, 3, nil, api.ErrNotFound}, {0, -3, nil, api.ErrNotFound},
	} {
		if l, e := shortest.Within(n, c.node, c.most); e != c.e || !slices.Equal(l, c.want) {
			t.Errorf("Within(%d, %d) = %v, %d", c.node, c.most, l, e)
		}
	}
	for _, n := range towns.Networks() {
		least := routes(n)
		for _, v := range n.Nodes {
			for most := -2; most < 12; most++ {
				var want []int
				for _, to := range n.Nodes {
					if r, found := least[[2]int{v.Id, to.Id}]; found && r.Length <= most {
						want = append(want, to.Id)
					}
				}
				if l, e := shortest.Within(n, v.Id, most); e != api.OK || !slices.Equal(l, want) {
					t.Errorf("%s: Within(%d, %d) = %v, %d", showTown(n), v.Id, most, l, e)
				}
			}
		}
	}
}

func TestP21_3Examples(t *testing.T) {
	const twin = "1 0 0, 2 1 0, 3 0 1, 4 1 1 | 1 1>3 2, 2 3>4 2, 5 1>2 2, 6 4>2 2, 7 2>4 2"
	for _, c := range []struct {
		s        string
		from, to int
		want     string
		e        api.Errno
	}{
		{lonely, 3, 2, "3 1 2 along 3 1 = 8", api.OK}, {lonely, 9, 9, "9 along  = 0", api.OK}, {lonely, 1, 3, "1 2 3 along 1 2 = 11", api.OK}, {twin, 1, 4, "1 2 4 along 5 7 = 4", api.OK},
		{lonely, 1, 9, " along  = 0", api.ErrUnreachable}, {lonely, 9, 1, " along  = 0", api.ErrUnreachable}, {lonely, 1, 4, " along  = 0", api.ErrNotFound}, {lonely, 4, 1, " along  = 0", api.ErrNotFound}, {lonely, 4, 4, " along  = 0", api.ErrNotFound}, {lonely, 9, 0, " along  = 0", api.ErrNotFound}, {"|", 0, 0, " along  = 0", api.ErrNotFound},
		// The lesser id comes first where lists differ at first, though the other list is shorter, or has a lesser id later.
		{"1 0 0, 2 0 0, 3 0 0, 4 0 0 | 1 1-4 3, 2 1-2 1, 3 2-3 1, 4 3-4 1", 1, 4, "1 2 3 4 along 2 3 4 = 3", api.OK}, {"1 0 0, 2 0 0, 3 0 0, 4 0 0 | 1 4-1 3, 2 4-2 1, 3 2-3 1, 4 3-1 1", 4, 1, "4 1 along 1 = 3", api.OK}, {"1 0 0, 2 0 0, 3 0 0, 4 0 0, 5 0 0 | 1 5-3 1, 2 3-1 1, 3 1-4 1, 4 5-2 2, 5 2-4 1", 5, 4, "5 2 4 along 4 5 = 3", api.OK},
		// Of parallel roads, the least one, and of several such the first one, in a permitted direction.
		{"1 0 0, 2 0 0 | 1 1-2 3, 2 2>1 1, 3 2-1 2, 4 1-2 2", 1, 2, "1 2 along 3 = 2", api.OK}, {"1 0 0, 2 0 0 | 1 1-2 3, 2 2>1 1, 3 2-1 2, 4 1-2 2", 2, 1, "2 1 along 2 = 1", api.OK},
		{"1 0 0, 2 0 0, 3 0 0 | 1 1-2 1073741824, 2 2-3 1073741824", 1, 3, "1 2 3 along 1 2 = 2147483648", api.OK},
	} {
		if r, e := shortest.FindRoute(town(c.s), c.from, c.to); e != c.e || showRoute(r) != c.want {
			t.Errorf("%s: FindRoute(%d, %d) = %s, %d", c.s, c.from, c.to, showRoute(r), e)
		}
	}
}

func TestP21_3(t *testing.T) {
	for _, n := range towns.Networks() {
		least := routes(n)
		for _, v := range n.Nodes {
			for _, w := range n.Nodes {
				r, e := shortest.FindRoute(n, v.Id, w.Id)
				want, found := least[[2]int{v.Id, w.Id}]
				if found != (e == api.OK) || !found && e != api.ErrUnreachable || showRoute(r) != showRoute(want) {
					t.Errorf("%s: FindRoute(%d, %d) = %s, %d; want %s", showTown(n), v.Id, w.Id, showRoute(r), e, showRoute(want))
				}
			}
		}
	}
}

// grid returns a network of 256 nodes in a square, with roads between neighbouring ones, of which some are OneWay, and others across.
func grid() api.Network {
	var n api.Network
	for k := range 256 {
		n.Nodes = append(n.Nodes, api.Node{Id: k + 1, X: k % 16, Y: k / 16})
	}
	add := func(from, to, length int) {
		n.Roads = append(n.Roads, api.Road{Id: len(n.Roads) + 1, From: from, To: to, Length: length, Limit: 1, OneWay: len(n.Roads)%7 == 0})
	}
	for k := range 255 {
		if k%16 < 15 {
			add(k+1, k+2, 1+k%3)
		}
		if k < 240 {
			add(k+1, k+17, 1+k%4)
		}
		if k%16 < 15 && k < 240 {
			add(k+18, k+1, 2+k%5)
			add(k+17, k+2, 2+k%2)
		}
	}
	return n
}

// As many nodes as there can be: lengths found by adding roads until nothing becomes shorter.
func TestP21_1Many(t *testing.T) {
	n := grid()
	if e := network.Check(n); e != api.OK {
		t.Fatalf("Check = %d", e)
	}
	for _, node := range []int{1, 100, 256} {
		want := make([]int, len(n.Nodes))
		for k := range want {
			want[k] = math.MaxInt32
		}
		want[node-1] = 0
		for changed := true; changed; {
			changed = false
			for _, r := range n.Roads {
				ends := [2]int{r.From - 1, r.To - 1}
				for k, from := range ends {
					if to := ends[1-k]; (k == 0 || !r.OneWay) && want[from]+r.Length < want[to] {
						want[to], changed = want[from]+r.Length, true
					}
				}
			}
		}
		l, e := shortest.Lengths(n, node)
		if e != api.OK || !slices.Equal(l, want) || shortest.CheckLengths(n, node, l) != api.OK {
			t.Errorf("Lengths(%d) = %v, %d; want %v", node, l, e, want)
		}
		for _, to := range []int{1, 16, 130, 241, 256} {
			if r, e := shortest.FindRoute(n, node, to); e != api.OK || r.Length != want[to-1] || len(r.Nodes) != len(r.Roads)+1 {
				t.Errorf("FindRoute(%d, %d) = %s, %d", node, to, showRoute(r), e)
			}
		}
	}
}

// Nothing is specified for networks and ways that are not valid, but no function may panic or go on for ever.
func TestP1NotValid(t *testing.T) {
	networks := []api.Network{
		{}, town("1 0 0, 1 0 0, 2 5 5 | 5 1-2 0, 5 2-1 -7, 4 1-1 1, 9 7-8 3, 3 1-9 2, 6 2-1 0"), town("| 5 1-2 0, 6 0-0 0"), town("1 0 0, 2 0 0, 3 0 0 | 1 1-2 0, 2 2-3 0, 3 3-1 0, 4 1-2 -1"),
		{Nodes: []api.Node{{Id: 1}, {Id: 2}, {Id: 5}}, Roads: []api.Road{{Id: 5, From: 1, To: 2, Length: math.MaxInt}, {Id: 6, From: 2, To: 5, Length: math.MaxInt}, {Id: 7, From: 5, To: 2, Length: math.MinInt}}},
	}
	offsets := []api.Rat{{}, rational.FromInt(1), rational.FromInt(-7), rat("1/3")}
	for _, x := range notation.Wrong() {
		offsets = append(offsets, x.P)
	}
	for _, n := range networks {
		for _, from := range []int{0, 1, 2, 5} {
			shortest.Lengths(n, from)
			shortest.Within(n, from, 3)
			shortest.CheckLengths(n, from, []int{math.MaxInt, 0, math.MinInt})
			for _, to := range []int{0, 1, 2, 5} {
				shortest.FindRoute(n, from, to)
			}
			for k, x := range offsets {
				p, q := api.Place{Road: from, Offset: x}, api.Place{Road: 5, Offset: offsets[(k+3)%len(offsets)]}
				shortest.Between(n, p, q)
				shortest.Between(n, q, p)
				w := shortest.Way{From: p, To: q, Legs: []shortest.Leg{{Road: from, From: x, To: q.Offset}, {Road: 5, From: q.Offset, To: x}}, Length: rational.FromInt(3)}
				shortest.CheckWay(n, w)
				shortest.Along(n, w, rational.FromInt(2))
				shortest.Along(n, w, x)
				shortest.Along(n, shortest.Way{Length: rational.FromInt(3)}, rational.FromInt(2))
			}
		}
	}
}
