package shortest_test

import (
	"cmp"
	"slices"
	"strconv"
	"strings"

	"viator/api"
	"viator/lists"
	"viator/network"
	"viator/notation"
	"viator/rational"
	"viator/shortest"
	"viator/towns"
)

// The strings of the tests are those of package notation.
var (
	rat       = notation.Rat
	town      = notation.Network
	showTown  = notation.ShowNetwork
	place     = notation.Place
	showPlace = notation.ShowPlace
)

// way returns the way between two positions of a string like "2@1 1@2: 2 1 6, 3 0 3, 1 0 2 = 10", with the roads and offsets of its legs, and its length.
func way(s string) shortest.Way {
	ends, rest, _ := strings.Cut(s, ":")
	from, to, _ := strings.Cut(ends, " ")
	legs, length, _ := strings.Cut(rest, "=")
	w := shortest.Way{From: place(from), To: place(to), Length: rat(strings.TrimSpace(length))}
	for _, leg := range strings.Split(legs, ",") {
		if words := strings.Fields(leg); len(words) > 0 {
			w.Legs = append(w.Legs, shortest.Leg{Road: place(words[0] + "@0").Road, From: rat(words[1]), To: rat(words[2])})
		}
	}
	return w
}

func showWay(w shortest.Way) string {
	legs := lists.Convert(w.Legs, func(l shortest.Leg) string {
		return " " + strconv.Itoa(l.Road) + " " + rational.Print(l.From) + " " + rational.Print(l.To)
	})
	return showPlace(w.From) + " " + showPlace(w.To) + ":" + strings.Join(legs, ",") + " = " + rational.Print(w.Length)
}

// showRoute returns a string like "3 1 2 along 3 1 = 8".
func showRoute(r shortest.Route) string {
	ids := func(l []int) string { return strings.Join(lists.Convert(l, strconv.Itoa), " ") }
	return ids(r.Nodes) + " along " + ids(r.Roads) + " = " + strconv.Itoa(r.Length)
}

// hop returns the road of the hop from one node to another one, and whether there is one.
func hop(n api.Network, from, to int) (api.Road, bool) {
	var best api.Road
	for _, r := range n.Roads {
		leads := r.From == from && r.To == to || !r.OneWay && r.From == to && r.To == from
		if leads && (best.Id == 0 || r.Length < best.Length) {
			best = r
		}
	}
	return best, best.Id != 0
}

// routes returns the least routes between all pairs of nodes: of all routes that come to no node twice, the one that the chapter describes.
func routes(n api.Network) map[[2]int]shortest.Route {
	least := map[[2]int]shortest.Route{}
	var extend func(r shortest.Route)
	extend = func(r shortest.Route) {
		first, last := r.Nodes[0], r.Nodes[len(r.Nodes)-1]
		other, found := least[[2]int{first, last}]
		if !found || r.Length < other.Length || r.Length == other.Length && slices.Compare(r.Nodes, other.Nodes) < 0 {
			least[[2]int{first, last}] = r
		}
		for _, v := range n.Nodes {
			if road, found := hop(n, last, v.Id); found && !slices.Contains(r.Nodes, v.Id) {
				extend(shortest.Route{Nodes: append(slices.Clone(r.Nodes), v.Id), Roads: append(slices.Clone(r.Roads), road.Id), Length: r.Length + road.Length})
			}
		}
	}
	for _, v := range n.Nodes {
		extend(shortest.Route{Nodes: []int{v.Id}})
	}
	return least
}

// between returns the least way by the words of the chapter, and whether there is one.
func between(n api.Network, least map[[2]int]shortest.Route, p, q api.Place) (shortest.Way, bool) {
	w := shortest.Way{From: p, To: q}
	if network.Same(n, p, q) {
		return w, true
	}
	type pair struct {
		a, b   int
		length api.Rat
	}
	var pairs []pair
	exits, _ := network.Exits(n, p)
	entries, _ := network.Entries(n, q)
	for _, a := range exits {
		for _, b := range entries {
			if r, found := least[[2]int{a.Node, b.Node}]; found {
				pairs = append(pairs, pair{a.Node, b.Node, rational.Add(a.Length, rational.Add(rational.FromInt(r.Length), b.Length))})
			}
		}
	}
	slices.SortFunc(pairs, func(x, y pair) int {
		return cmp.Or(rational.Compare(x.length, y.length), slices.Compare(least[[2]int{x.a, x.b}].Nodes, least[[2]int{y.a, y.b}].Nodes))
	})
	ahead, direct := network.Ahead(n, p, q)
	switch {
	case direct && (len(pairs) == 0 || rational.Compare(ahead, pairs[0].length) <= 0):
		w.Legs, w.Length = []shortest.Leg{single(n, p, q, ahead)}, ahead
		return w, true
	case len(pairs) == 0:
		return shortest.Way{}, false
	}
	w.Length = pairs[0].length
	r := least[[2]int{pairs[0].a, pairs[0].b}]
	travel := func(road int, from, to api.Rat) {
		if from != to {
			w.Legs = append(w.Legs, shortest.Leg{Road: road, From: from, To: to})
		}
	}
	travel(p.Road, p.Offset, offset(n, p.Road, pairs[0].a))
	for k, road := range r.Roads {
		travel(road, offset(n, road, r.Nodes[k]), offset(n, road, r.Nodes[k+1]))
	}
	travel(q.Road, offset(n, q.Road, pairs[0].b), q.Offset)
	return w, true
}

// offset returns the offset of a node on a road.
func offset(n api.Network, id, node int) api.Rat {
	road, _ := network.Road(n, id)
	if road.To == node {
		return rational.FromInt(road.Length)
	}
	return api.Rat{}
}

// single returns the leg of a length between two positions, on the first road that has one.
func single(n api.Network, p, q api.Place, length api.Rat) shortest.Leg {
	for _, r := range n.Roads {
		whole := rational.FromInt(r.Length)
		for _, from := range []api.Rat{p.Offset, {}, whole} {
			for _, to := range []api.Rat{q.Offset, {}, whole} {
				lies := network.Same(n, p, api.Place{Road: r.Id, Offset: from}) && network.Same(n, q, api.Place{Road: r.Id, Offset: to})
				way := rational.Sub(to, from)
				if lies && rational.Abs(way) == length && (!r.OneWay || rational.Sign(way) >= 0) {
					return shortest.Leg{Road: r.Id, From: from, To: to}
				}
			}
		}
	}
	panic(showTown(n))
}

// pairs calls a function with networks, two of their positions, and the least way between these.
func pairs(f func(n api.Network, p, q api.Place, w shortest.Way, e api.Errno)) {
	for _, n := range towns.Networks() {
		for _, p := range towns.Places(n) {
			for _, q := range towns.Places(n) {
				w, e := shortest.Between(n, p, q)
				f(n, p, q, w, e)
			}
		}
	}
}
