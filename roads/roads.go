// Package roads contains what several layers ask of single roads of a network: where their nodes are, and how to travel along one of them.
package roads

import (
	"viator/api"
	"viator/lists"
	"viator/rational"
)

// Way is a way along a road, from one offset to another one.
type Way struct {
	Road     int
	From, To api.Rat
}

// Length returns the length of a way.
func Length(w Way) api.Rat { return rational.Abs(rational.Sub(w.To, w.From)) }

// IsDenied tells whether a way along a road leads in a direction that is not permitted.
func IsDenied(r api.Road, w Way) bool {
	return r.OneWay && rational.Compare(w.To, w.From) < 0
}

// Node returns the node that a road has at an offset, and Offset the offset at which it has a node, and whether there is one.
func Node(r api.Road, offset api.Rat) (int, bool) {
	switch offset {
	case api.Rat{}:
		return r.From, true
	case rational.FromInt(r.Length):
		return r.To, true
	}
	return 0, false
}

func Offset(r api.Road, node int) (api.Rat, bool) {
	switch node {
	case r.From:
		return api.Rat{}, true
	case r.To:
		return rational.FromInt(r.Length), true
	}
	return api.Rat{}, false
}

// Least returns the least way between two valid positions along a single road of a network, of several ones that on the road with the least id, and whether there is one.
func Least(n api.Network, p, q api.Place) (Way, bool) {
	offsetOfP, offsetOfQ := offsets(n, p), offsets(n, q)
	var ways []Way
	for _, r := range n.Roads {
		from, begins := offsetOfP(r)
		to, ends := offsetOfQ(r)
		if w := (Way{r.Id, from, to}); begins && ends && !IsDenied(r, w) {
			ways = append(ways, w)
		}
	}
	return lists.Least(ways, func(v, w Way) int { return rational.Compare(Length(v), Length(w)) })
}

// offsets returns a function that tells at which offset of a road a position lies, and whether it lies there: one at a node lies on all roads that begin or end there.
func offsets(n api.Network, p api.Place) func(r api.Road) (api.Rat, bool) {
	for _, own := range n.Roads {
		if own.Id != p.Road {
			continue
		}
		if node, at := Node(own, p.Offset); at {
			return func(r api.Road) (api.Rat, bool) { return Offset(r, node) }
		}
	}
	return func(r api.Road) (api.Rat, bool) { return p.Offset, r.Id == p.Road }
}
