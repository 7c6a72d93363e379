package matching

import (
	"slices"

	"viator/api"
	"viator/lists"
)

// Potential is a bound of the costs of all choices up to a candidate; it is not reached if there is no such choice.
type Potential struct {
	Reached bool
	Value   api.Rat
}

// Find returns the choice that costs least.
func Find(n api.Network, l []Fix, r Rules) (Match, api.Errno) {
	t, e := newComplete(n, l, r)
	if e != api.OK {
		return Match{}, e
	}
	var last []Match
	for _, last = range t.layers(0) {
	}
	best, found := least(slices.DeleteFunc(last, func(m Match) bool { return !isReached(m) }))
	if !found {
		return Match{}, api.ErrUnreachable
	}
	return best, api.OK
}

// newComplete returns a trellis in which each fix has candidates.
func newComplete(n api.Network, l []Fix, r Rules) (trellis, api.Errno) {
	t, e := newTrellis(n, l, r)
	if e == api.OK && t.hasGap() {
		return trellis{}, api.ErrNotFound
	}
	return t, e
}

// Potentials returns bounds that prove that a choice costs least.
func Potentials(n api.Network, l []Fix, r Rules) ([][]Potential, api.Errno) {
	t, e := newComplete(n, l, r)
	if e != api.OK {
		return nil, e
	}
	var all [][]Potential
	for _, layer := range t.layers(0) {
		all = append(all, lists.Convert(layer, func(m Match) Potential {
			return Potential{Reached: isReached(m), Value: m.Cost}
		}))
	}
	return all, api.OK
}

// Parts returns the parts of a list of fixes that can be matched.
func Parts(n api.Network, l []Fix, r Rules) ([][2]int, api.Errno) {
	t, e := newTrellis(n, l, r)
	if e != api.OK {
		return nil, e
	}
	var parts [][2]int
	for first := 0; first < len(l); {
		end := t.connected(first)
		if end == first {
			first++ // the fix has no candidates
			continue
		}
		parts = append(parts, [2]int{first, end})
		first = end
	}
	return parts, api.OK
}

// connected returns the end of the fixes from a first one on that have a connected choice.
func (t trellis) connected(first int) int {
	for fix, layer := range t.layers(first) {
		if !slices.ContainsFunc(layer, isReached) {
			return fix
		}
	}
	return len(t.candidates)
}
