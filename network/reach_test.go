package network_test

import (
	"slices"
	"testing"

	"viator/api"
	"viator/network"
	"viator/towns"
)

// reach returns the nodes that can be reached from a node, found by adding ends of roads as long as there are any.
func reach(n api.Network, node int) []int {
	list := []int{node}
	for before := 0; before < len(list); {
		before = len(list)
		for _, r := range n.Roads {
			for _, way := range [][2]int{{r.From, r.To}, {r.To, r.From}} {
				denied := r.OneWay && way[0] == r.To
				if !denied && slices.Contains(list, way[0]) && !slices.Contains(list, way[1]) {
					list = append(list, way[1])
				}
			}
		}
	}
	slices.Sort(list)
	return list
}

// groups returns the groups of nodes, by their words.
func groups(n api.Network) [][]int {
	var list [][]int
	for _, v := range n.Nodes {
		var group []int
		for _, w := range n.Nodes {
			if slices.Contains(reach(n, v.Id), w.Id) && slices.Contains(reach(n, w.Id), v.Id) {
				group = append(group, w.Id)
			}
		}
		if group[0] == v.Id {
			list = append(list, group)
		}
	}
	return list
}

func equalGroups(a, b [][]int) bool { return slices.EqualFunc(a, b, slices.Equal[[]int]) }

func TestP20_8Reach(t *testing.T) {
	example := town(towns.Example + ", 9 1>2 7")
	without := api.Network{Nodes: append(example.Nodes, api.Node{Id: 8}), Roads: example.Roads[:2]}
	for node, want := range map[int][]int{1: {1, 2, 3}, 2: {1, 2, 3}, 3: {3}, 8: {8}, 0: nil, 7: nil, -1: nil} {
		if got := network.Reach(without, node); !slices.Equal(got, want) {
			t.Errorf("Reach(%d) = %v", node, got)
		}
	}
	for _, n := range towns.Networks() {
		for _, v := range n.Nodes {
			if got := network.Reach(n, v.Id); !slices.Equal(got, reach(n, v.Id)) {
				t.Errorf("%s: Reach(%d) = %v", showTown(n), v.Id, got)
			}
		}
	}
}

func TestP20_8Groups(t *testing.T) {
	for s, want := range map[string][][]int{
		"|": nil, "7 0 0 |": {{7}}, towns.Example: {{1, 2, 3}}, "1 0 0, 2 3 4, 3 3 0 | 1 1-2 5, 2 2>3 6": {{1, 2}, {3}}, "1 0 0, 2 0 0, 3 0 0 | 1 3>1 1, 2 1-3 1": {{1, 3}, {2}},
		"1 0 0, 2 0 0, 3 0 0, 4 0 0, 5 0 0 | 1 5>3 1, 2 3>1 1, 3 1>5 1, 4 1>4 1, 5 4>2 1, 6 2>4 1": {{1, 3, 5}, {2, 4}},
		// Two rings that share a node, and a way from one group to the next one.
		"1 0 0, 2 0 0, 3 0 0, 4 0 0, 5 0 0, 6 0 0 | 1 1>2 1, 2 2>3 1, 3 3>1 1, 4 2>4 1, 5 4>5 1, 6 5>2 1, 7 6>1 1": {{1, 2, 3, 4, 5}, {6}},
		"1 0 0, 2 0 0, 3 0 0, 4 0 0 | 1 1>2 1, 2 1>3 1, 3 2>4 1, 4 3>4 1, 5 4>3 1":                                 {{1}, {2}, {3, 4}},
	} {
		if got := network.Groups(town(s)); !equalGroups(got, want) {
			t.Errorf("Groups(%s) = %v", s, got)
		}
	}
	for _, n := range towns.Networks() {
		if got := network.Groups(n); !equalGroups(got, groups(n)) {
			t.Errorf("Groups(%s) = %v; want %v", showTown(n), got, groups(n))
		}
	}
}

// Rings in a row: a way that goes on for as long as there are nodes.
func TestP20_8Long(t *testing.T) {
	n := row(256, 255)
	if l := network.Reach(n, 256); len(l) != 256 || l[0] != 1 || l[255] != 256 {
		t.Errorf("Reach = %v", l)
	}
	if l := network.Groups(n); len(l) != 1 || len(l[0]) != 256 {
		t.Errorf("Groups = %v", l)
	}
	for k := range n.Roads {
		n.Roads[k].OneWay = true
	}
	if l := network.Groups(n); len(l) != 256 || l[255][0] != 256 {
		t.Errorf("Groups of a row of roads that are OneWay = %v", l)
	}
	n.Roads = append(n.Roads, api.Road{Id: 1000, From: 256, To: 1, Length: 255, Limit: 1, OneWay: true})
	if l := network.Groups(n); len(l) != 1 || !slices.Equal(l[0], network.Reach(n, 7)) {
		t.Errorf("Groups of a ring = %v", l)
	}
}

func TestP20_9Groups(t *testing.T) {
	for _, n := range towns.Networks() {
		group := map[int]int{}
		for k, l := range network.Groups(n) {
			for _, node := range l {
				if _, found := group[node]; found {
					t.Errorf("%s: %d is in two groups", showTown(n), node)
				}
				group[node] = k
			}
		}
		for _, v := range n.Nodes {
			for _, w := range n.Nodes {
				both := slices.Contains(network.Reach(n, v.Id), w.Id) && slices.Contains(network.Reach(n, w.Id), v.Id)
				if both != (group[v.Id] == group[w.Id]) {
					t.Errorf("%s: the groups of %d and %d", showTown(n), v.Id, w.Id)
				}
			}
		}
		if len(group) != len(n.Nodes) {
			t.Errorf("%s: %d nodes are in groups", showTown(n), len(group))
		}
	}
}
