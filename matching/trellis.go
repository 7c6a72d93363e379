package matching

import (
	"cmp"
	"iter"
	"slices"

	"viator/api"
	"viator/candidate"
	"viator/lists"
	"viator/rational"
)

// trellis is what choices are made from: the candidates of each fix, and what it costs to choose them one after another.
type trellis struct {
	candidates [][]candidate.Candidate
	rules      Rules
	transition func(p, q api.Place) (api.Rat, bool)
}

func newTrellis(n api.Network, l []Fix, r Rules) (trellis, api.Errno) {
	candidates, e := Candidates(n, l, r)
	if e != api.OK {
		return trellis{}, e
	}
	return trellis{candidates: candidates, rules: r, transition: transitions(n)}, api.OK
}

// hasGap tells whether a fix has no candidates.
func (t trellis) hasGap() bool {
	return slices.ContainsFunc(t.candidates, func(l []candidate.Candidate) bool { return len(l) == 0 })
}

// emission returns what a candidate of a fix costs, and step what it costs together with the way to it from a candidate of the fix before, if there is one.
func (t trellis) emission(fix, k int) api.Rat { return Emission(t.candidates[fix][k], t.rules) }

func (t trellis) step(fix, before, k int) (api.Rat, bool) {
	way, found := t.transition(t.candidates[fix-1][before].Place, t.candidates[fix][k].Place)
	if !found {
		return api.Rat{}, false
	}
	return rational.Add(way, t.emission(fix, k)), true
}

// cost returns what a choice costs.
func (t trellis) cost(choice []int) (api.Rat, api.Errno) {
	if len(choice) != len(t.candidates) {
		return api.Rat{}, api.ErrForm
	}
	for fix, k := range choice {
		if k < 0 || k >= len(t.candidates[fix]) {
			return api.Rat{}, api.ErrRange
		}
	}
	sum := t.emission(0, choice[0])
	for fix := 1; fix < len(choice); fix++ {
		more, found := t.step(fix, choice[fix-1], choice[fix])
		if !found {
			return api.Rat{}, api.ErrUnreachable
		}
		sum = rational.Add(sum, more)
	}
	return sum, api.OK
}

// layers yields a fix and those behind it, each one with the best connected choices for the fixes up to it: one for each of its candidates with which such a choice ends, and otherwise a match without a choice.
func (t trellis) layers(first int) iter.Seq2[int, []Match] {
	return func(yield func(fix int, layer []Match) bool) {
		layer := make([]Match, len(t.candidates[first]))
		for k := range layer {
			layer[k] = Match{Choice: []int{k}, Cost: t.emission(first, k)}
		}
		for fix := first; yield(fix, layer) && fix+1 < len(t.candidates); fix++ {
			layer = t.next(fix+1, layer)
		}
	}
}

// next returns the layer of a fix, given that of the fix before.
func (t trellis) next(fix int, before []Match) []Match {
	layer := make([]Match, len(t.candidates[fix]))
	for k := range layer {
		var all []Match
		for j, m := range before {
			if !isReached(m) {
				continue
			}
			if more, found := t.step(fix, j, k); found {
				all = append(all, Match{Choice: m.Choice, Cost: rational.Add(m.Cost, more)})
			}
		}
		if best, found := least(all); found {
			layer[k] = Match{Choice: append(slices.Clone(best.Choice), k), Cost: best.Cost}
		}
	}
	return layer
}

func isReached(m Match) bool { return len(m.Choice) > 0 }

// least returns the match that costs least, of several ones that with the choice that comes first, and whether there is one.
func least(l []Match) (Match, bool) {
	return lists.Least(l, func(a, b Match) int {
		return cmp.Or(rational.Compare(a.Cost, b.Cost), slices.Compare(a.Choice, b.Choice))
	})
}
