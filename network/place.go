package network

import (
	"cmp"
	"slices"

	"viator/api"
	"viator/plane"
	"viator/rational"
	"viator/roads"
)

// End is a node, and the length of the way to it or from it.
type End struct {
	Node   int
	Length api.Rat
}

// CheckPlace returns the error of a position, and Point its point in the plane.
func CheckPlace(n api.Network, p api.Place) api.Errno {
	_, e := roadOf(n, p)
	return e
}

// roadOf returns the road of a position, or the error of the position.
func roadOf(n api.Network, p api.Place) (api.Road, api.Errno) {
	road, found := Road(n, p.Road)
	switch {
	case !found:
		return api.Road{}, api.ErrNotFound
	case rational.Check(p.Offset) != api.OK:
		return api.Road{}, api.ErrForm
	case rational.Sign(p.Offset) < 0 || rational.Compare(p.Offset, rational.FromInt(road.Length)) > 0:
		return api.Road{}, api.ErrRange
	}
	return road, api.OK
}

func Point(n api.Network, p api.Place) (api.Point, api.Errno) {
	road, e := roadOf(n, p)
	if e != api.OK {
		return api.Point{}, e
	}
	nodes := nodesOf(n)
	from, to := nodes[road.From], nodes[road.To]
	line := api.Segment{A: plane.At(from.X, from.Y), B: plane.At(to.X, to.Y)}
	ratio, _ := rational.Div(p.Offset, rational.FromInt(road.Length))
	return plane.Divide(line, ratio), api.OK
}

// At returns the position of a node, NodeAt the node of a position, and Normal the normal form of a position; Same tells whether two positions are the same.
func At(n api.Network, node int) (api.Place, api.Errno) {
	if _, found := Node(n, node); !found {
		return api.Place{}, api.ErrNotFound
	}
	for _, r := range n.Roads {
		if offset, at := roads.Offset(r, node); at {
			return api.Place{Road: r.Id, Offset: offset}, api.OK
		}
	}
	return api.Place{}, api.ErrGap
}

func NodeAt(n api.Network, p api.Place) (int, bool) {
	road, e := roadOf(n, p)
	if e != api.OK {
		return 0, false
	}
	return roads.Node(road, p.Offset)
}

func Normal(n api.Network, p api.Place) (api.Place, api.Errno) {
	road, e := roadOf(n, p)
	if e != api.OK {
		return api.Place{}, e
	}
	if node, at := roads.Node(road, p.Offset); at {
		return At(n, node)
	}
	return p, api.OK
}

func Same(n api.Network, p, q api.Place) bool {
	first, e := Normal(n, p)
	second, f := Normal(n, q)
	return e == api.OK && f == api.OK && first == second
}

// Exits returns the nodes that can be reached from a position without passing another node, and Entries those from which it can be reached so.
func Exits(n api.Network, p api.Place) ([]End, api.Errno) {
	road, e := roadOf(n, p)
	if e != api.OK {
		return nil, e
	}
	return exits(road, p.Offset), api.OK
}

func Entries(n api.Network, p api.Place) ([]End, api.Errno) {
	road, e := roadOf(n, p)
	if e != api.OK {
		return nil, e
	}
	return exits(turned(road), left(road, p.Offset)), api.OK
}

// exits returns the exits of the position at an offset of a road.
func exits(road api.Road, offset api.Rat) []End {
	if node, at := roads.Node(road, offset); at {
		return []End{{Node: node}}
	}
	list := []End{{Node: road.To, Length: left(road, offset)}}
	if !road.OneWay {
		list = append(list, End{Node: road.From, Length: offset})
	}
	slices.SortFunc(list, func(a, b End) int { return cmp.Compare(a.Node, b.Node) })
	return list
}

// Mirror returns the position in the reversed network that has the same point.
func Mirror(n api.Network, p api.Place) (api.Place, api.Errno) {
	road, e := roadOf(n, p)
	if e != api.OK {
		return api.Place{}, e
	}
	return api.Place{Road: p.Road, Offset: left(road, p.Offset)}, api.OK
}

// left returns what is left of the length of a road behind an offset.
func left(road api.Road, offset api.Rat) api.Rat {
	return rational.Sub(rational.FromInt(road.Length), offset)
}

// Ahead returns the least length of a way from one position to another one along a single road.
func Ahead(n api.Network, p, q api.Place) (api.Rat, bool) {
	if CheckPlace(n, p) != api.OK || CheckPlace(n, q) != api.OK {
		return api.Rat{}, false
	}
	way, found := roads.Least(n, p, q)
	return roads.Length(way), found
}
