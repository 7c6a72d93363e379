package matching

import (
	"viator/api"
	"viator/lists"
	"viator/network"
	"viator/rational"
	"viator/roads"
	"viator/shortest"
)

// pair is a position, and another one to which a vehicle may travel.
type pair struct{ from, to api.Place }

// length is the length of a least way, if there is one.
type length struct {
	value api.Rat
	found bool
}

// transitions returns a function that tells the length of the least way between two positions of a network, and whether there is one. What it has found out is kept, since neighbouring fixes ask for the ways between the same nodes again and again.
func transitions(n api.Network) func(p, q api.Place) (api.Rat, bool) {
	exits := remembering(func(p api.Place) []network.End {
		ends, _ := network.Exits(n, p)
		return ends
	})
	entries := remembering(func(q api.Place) []network.End {
		ends, _ := network.Entries(n, q)
		return ends
	})
	routes := remembering(func(node int) map[int]int { return routesFrom(n, node) })
	known := remembering(func(k pair) length {
		first, last := exits(k.from), entries(k.to)
		if len(first) == 0 || len(last) == 0 {
			return length{} // a position that is not valid
		}
		var all []api.Rat
		if along, found := roads.Least(n, k.from, k.to); found {
			all = append(all, roads.Length(along))
		}
		for _, a := range first {
			for _, b := range last {
				if route, found := routes(a.Node)[b.Node]; found {
					all = append(all, rational.Add(rational.Add(a.Length, rational.FromInt(route)), b.Length))
				}
			}
		}
		value, found := lists.Least(all, rational.Compare)
		return length{value, found}
	})
	return func(p, q api.Place) (api.Rat, bool) {
		way := known(pair{p, q})
		return way.value, way.found
	}
}

// routesFrom returns the lengths of the least routes from a node, by the nodes to which they lead.
func routesFrom(n api.Network, node int) map[int]int {
	routes := map[int]int{}
	list, _ := shortest.Lengths(n, node)
	for k, way := range list {
		if way >= 0 {
			routes[n.Nodes[k].Id] = way
		}
	}
	return routes
}

// remembering returns a function that asks another one only once for each argument.
func remembering[K comparable, V any](ask func(k K) V) func(k K) V {
	known := map[K]V{}
	return func(k K) V {
		if v, found := known[k]; found {
			return v
		}
		v := ask(k)
		known[k] = v
		return v
	}
}
