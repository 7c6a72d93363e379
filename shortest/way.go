package shortest

import (
	"cmp"
	"slices"

	"viator/api"
	"viator/lists"
	"viator/network"
	"viator/rational"
	"viator/roads"
)

// Leg is a part of a way along one road, from one offset to another one.
type Leg struct {
	Road     int
	From, To api.Rat
}

// Way is a way from one position to another one.
type Way struct {
	From, To api.Place
	Legs     []Leg
	Length   api.Rat
}

// candidate is a way that may be the least one: along a single road, or along a route between nodes.
type candidate struct {
	nodes  []int
	legs   []Leg
	length api.Rat
}

// Between returns the least way between two positions.
func Between(n api.Network, p, q api.Place) (Way, api.Errno) {
	exits, e := network.Exits(n, p)
	if e != api.OK {
		return Way{}, e
	}
	entries, e := network.Entries(n, q)
	if e != api.OK {
		return Way{}, e
	}
	var all []candidate
	if along, found := roads.Least(n, p, q); found {
		all = append(all, candidate{legs: []Leg{Leg(along)}, length: roads.Length(along)})
	}
	into, byId := approaches(n), lists.Keyed(n.Roads, func(r api.Road) int { return r.Id })
	for _, entry := range entries {
		first := hopsTo(entry.Node, into)
		for _, exit := range exits {
			if r, found := route(first, exit.Node, entry.Node); found {
				length := rational.Add(rational.Add(exit.Length, rational.FromInt(r.Length)), entry.Length)
				all = append(all, candidate{r.Nodes, legs(byId, p, r, q), length})
			}
		}
	}
	// No nodes come before all others, so that of several least ways that along a single road is the first one.
	least, found := lists.Least(all, func(v, w candidate) int {
		return cmp.Or(rational.Compare(v.length, w.length), slices.Compare(v.nodes, w.nodes))
	})
	if !found {
		return Way{}, api.ErrUnreachable
	}
	travelled := slices.DeleteFunc(least.legs, func(l Leg) bool { return l.From == l.To })
	return Way{From: p, To: q, Legs: travelled, Length: least.length}, api.OK
}

// legs returns the legs from a position along a route to another position, of which the first and the last one can have the length 0.
func legs(byId map[int]api.Road, p api.Place, r Route, q api.Place) []Leg {
	offset := func(road, node int) api.Rat {
		at, _ := roads.Offset(byId[road], node)
		return at
	}
	last := len(r.Roads)
	list := []Leg{{p.Road, p.Offset, offset(p.Road, r.Nodes[0])}}
	for k, road := range r.Roads {
		list = append(list, Leg{road, offset(road, r.Nodes[k]), offset(road, r.Nodes[k+1])})
	}
	return append(list, Leg{q.Road, offset(q.Road, r.Nodes[last]), q.Offset})
}

// CheckWay returns the error of a way that cannot be travelled.
func CheckWay(n api.Network, w Way) api.Errno {
	if e := checkPlaces(n, w.From, w.To); e != api.OK {
		return e
	}
	at, length := w.From, api.Rat{}
	for _, l := range w.Legs {
		if e := checkLeg(n, l, at); e != api.OK {
			return e
		}
		at = api.Place{Road: l.Road, Offset: l.To}
		length = rational.Add(length, roads.Length(roads.Way(l)))
	}
	switch {
	case !network.Same(n, at, w.To):
		return api.ErrGap
	case length != w.Length:
		return api.ErrConflict
	}
	return api.OK
}

// checkPlaces returns the first error of some positions.
func checkPlaces(n api.Network, l ...api.Place) api.Errno {
	for _, p := range l {
		if e := network.CheckPlace(n, p); e != api.OK {
			return e
		}
	}
	return api.OK
}

// checkLeg returns the error of a leg that has to begin at a position.
func checkLeg(n api.Network, l Leg, at api.Place) api.Errno {
	from, to := api.Place{Road: l.Road, Offset: l.From}, api.Place{Road: l.Road, Offset: l.To}
	if e := checkPlaces(n, from, to); e != api.OK {
		return e
	}
	road, _ := network.Road(n, l.Road)
	switch {
	case l.From == l.To:
		return api.ErrZero
	case roads.IsDenied(road, roads.Way(l)):
		return api.ErrDenied
	case !network.Same(n, at, from):
		return api.ErrGap
	}
	return api.OK
}

// Along returns the position on a way at which some length has been travelled.
func Along(n api.Network, w Way, length api.Rat) (api.Place, api.Errno) {
	if rational.Sign(length) < 0 || rational.Compare(length, w.Length) > 0 {
		return api.Place{}, api.ErrRange
	}
	for _, l := range w.Legs {
		rest := rational.Sub(length, roads.Length(roads.Way(l)))
		if rational.Sign(rest) <= 0 {
			return network.Normal(n, before(l, rational.Neg(rest)))
		}
		length = rest
	}
	return network.Normal(n, w.To)
}

// before returns the position on a leg from which some length is left to its end.
func before(l Leg, length api.Rat) api.Place {
	if rational.Compare(l.From, l.To) < 0 {
		length = rational.Neg(length)
	}
	return api.Place{Road: l.Road, Offset: rational.Add(l.To, length)}
}
