// Package towns contains small road networks, positions on them, and the lengths of ways between these. It is there for tests, which take from it what they expect: it knows nothing of the packages that compute with networks.
package towns

import (
	"viator/api"
	"viator/draws"
	"viator/integer"
	"viator/notation"
	"viator/rational"
)

// Example is the network of the examples of layer 20.
const Example = "1 0 0, 2 3 4, 3 3 0 | 1 1-2 5, 2 2>3 6, 3 3>1 3"

// special returns networks in which lengths are equal, roads are parallel, nodes are at the same point, or some nodes cannot be reached.
func special() []string {
	return []string{
		"|", "7 5 5 |", "7 5 5, 8 6 6 |", Example, "1 0 0, 2 3 4, 3 3 0, 9 9 9 | 1 1-2 5, 2 2>3 6",
		"1 0 0, 2 0 0 | 4 1-2 1", "1 0 0, 2 0 0 | 4 2>1 1, 5 2>1 1, 6 1>2 2", "1 0 0, 2 1 0 | 1 1-2 3, 2 2-1 1, 3 1-2 1, 4 1-2 2", "1 0 0, 2 1 0 | 1 2>1 2, 2 1>2 2, 3 1-2 2", "1 0 0, 2 1 0 | 1 1>2 4, 2 2>1 1", "5 0 0, 6 1 0 | 8 6-5 5, 9 6>5 1",
		"1 0 0, 2 1 0, 3 0 1, 4 1 1 | 1 1>3 2, 2 3>4 2, 5 1>2 2, 6 4>2 2, 7 2>4 2", "1 0 0, 2 1 0, 3 0 1, 4 1 1 | 1 1-2 1, 2 2-3 2, 3 3-4 1, 4 4-1 2, 5 1-3 2, 6 2-4 2", "1 0 0, 2 1 0, 3 1 1 | 1 1-2 2, 2 2-3 2, 3 1-3 4, 4 1-3 4", "1 0 0, 2 1 0, 3 2 0 | 1 1-2 1, 2 2-3 1, 3 1-3 4", "2 0 0, 4 1 0, 6 2 0 | 3 4-2 1, 5 6-4 1, 7 2-6 2",
		"1 0 0, 2 0 0, 3 0 0, 4 0 0, 5 0 0 | 1 1>2 1, 2 2>3 1, 3 3>1 1, 4 3>4 1, 5 4-5 1", "1 0 0, 2 0 0, 3 0 0, 4 0 0 | 1 4>3 1, 2 3>2 1, 3 2>1 1, 4 3-4 2", "1 0 0, 2 0 0, 3 0 0, 4 0 0, 5 0 0, 6 0 0 | 1 1-6 1, 2 6>2 1, 3 2>5 2, 4 5>3 1, 5 3>2 1, 6 4>1 1", "10 0 0, 20 3 0, 30 0 4, 40 3 4 | 11 10-20 3, 12 40>20 4 2, 13 30-40 3 3, 14 10>30 4, 15 40-10 5, 16 30-20 5",
	}
}

// Networks returns networks with up to six nodes and nine roads: special ones, and others that follow no plan.
func Networks() []api.Network {
	var list []api.Network
	for _, s := range special() {
		list = append(list, notation.Network(s))
	}
	draw := draws.From(1)
	for range 40 {
		list = append(list, drawn(draw))
	}
	return list
}

// drawn returns a network whose numbers are drawn.
func drawn(draw func(below int) int) api.Network {
	var n api.Network
	for k := range 2 + draw(5) {
		n.Nodes = append(n.Nodes, api.Node{Id: 3*k + 1 + draw(3), X: draw(3), Y: draw(2)})
	}
	for k := range draw(10) {
		from := draw(len(n.Nodes))
		to := (from + 1 + draw(len(n.Nodes)-1)) % len(n.Nodes)
		a, b := n.Nodes[from], n.Nodes[to]
		length := 1 + draw(2)
		for length*length < (a.X-b.X)*(a.X-b.X)+(a.Y-b.Y)*(a.Y-b.Y) {
			length++
		}
		n.Roads = append(n.Roads, api.Road{Id: 2*k + 1 + draw(2), From: a.Id, To: b.Id, Length: length, Limit: 1 + draw(3), OneWay: draw(3) == 0})
	}
	return n
}

// Places returns the positions at each half of the length on all roads.
func Places(n api.Network) []api.Place {
	var list []api.Place
	for _, r := range n.Roads {
		for steps := range 2*r.Length + 1 {
			list = append(list, api.Place{Road: r.Id, Offset: halves(steps)})
		}
	}
	return list
}

func halves(steps int) api.Rat {
	length, _ := rational.FromInts(steps, 2)
	return length
}

// spot is a node, or otherwise a position on a road, that many halves behind its beginning.
type spot struct{ node, road, steps int }

// at returns the spot on a road.
func at(r api.Road, steps int) spot {
	switch steps {
	case 0:
		return spot{node: r.From}
	case 2 * r.Length:
		return spot{node: r.To}
	}
	return spot{road: r.Id, steps: steps}
}

// spotOf returns the spot of a position.
func spotOf(n api.Network, p api.Place) spot {
	for _, r := range n.Roads {
		if r.Id == p.Road {
			steps, _ := integer.ToInt(rational.Num(rational.Mul(p.Offset, rational.FromInt(2))))
			return at(r, steps)
		}
	}
	panic(notation.ShowPlace(p))
}

// Lengths returns the lengths of the least ways from one of the positions of Places to those of them that can be reached along some of the roads. They are found by steps of one half from all spots that were reached.
func Lengths(n api.Network, along []api.Road, p api.Place) map[api.Place]api.Rat {
	steps := map[spot]int{spotOf(n, p): 0}
	reached := []spot{spotOf(n, p)}
	for k := 0; k < len(reached); k++ {
		for _, next := range around(along, reached[k]) {
			if _, known := steps[next]; !known {
				steps[next] = steps[reached[k]] + 1
				reached = append(reached, next)
			}
		}
	}
	lengths := map[api.Place]api.Rat{}
	for _, q := range Places(n) {
		if count, known := steps[spotOf(n, q)]; known {
			lengths[q] = halves(count)
		}
	}
	return lengths
}

// around returns the spots one step along one of some roads from a spot.
func around(along []api.Road, s spot) []spot {
	var list []spot
	for _, r := range along {
		for steps := range 2*r.Length + 1 {
			if at(r, steps) != s {
				continue
			}
			if steps < 2*r.Length {
				list = append(list, at(r, steps+1))
			}
			if steps > 0 && !r.OneWay {
				list = append(list, at(r, steps-1))
			}
		}
	}
	return list
}
