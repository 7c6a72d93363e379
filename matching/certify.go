package matching

import (
	"viator/api"
	"viator/candidate"
	"viator/rational"
)

// Certify checks whether potentials prove that a match costs least.
func Certify(n api.Network, l []Fix, r Rules, m Match, p [][]Potential) api.Errno {
	t, e := newTrellis(n, l, r)
	if e != api.OK {
		return e
	}
	cost, e := t.cost(m.Choice)
	if e != api.OK || cost != m.Cost || !hasForm(p, t.candidates) {
		return api.ErrCertificate
	}
	for fix := range p {
		for k := range p[fix] {
			if !t.isBound(p, fix, k) {
				return api.ErrCertificate
			}
		}
	}
	for _, q := range p[len(p)-1] {
		if q.Reached && rational.Compare(q.Value, m.Cost) < 0 {
			return api.ErrCertificate
		}
	}
	return api.OK
}

// hasForm tells whether potentials have a canonical value for each candidate.
func hasForm(p [][]Potential, candidates [][]candidate.Candidate) bool {
	if len(p) != len(candidates) {
		return false
	}
	for fix := range p {
		if len(p[fix]) != len(candidates[fix]) {
			return false
		}
		for _, q := range p[fix] {
			if rational.Check(q.Value) != api.OK {
				return false
			}
		}
	}
	return true
}

// isBound tells whether no choice up to a candidate costs less than its potential, if that is so for the potentials of the fix before; and whether the candidate is reached exactly if there is such a choice.
func (t trellis) isBound(p [][]Potential, fix, k int) bool {
	q := p[fix][k]
	if fix == 0 {
		return q.Reached && rational.Compare(q.Value, t.emission(fix, k)) <= 0
	}
	reached := false
	for j, before := range p[fix-1] {
		if !before.Reached {
			continue
		}
		more, found := t.step(fix, j, k)
		if found && rational.Compare(q.Value, rational.Add(before.Value, more)) > 0 {
			return false
		}
		reached = reached || found
	}
	return q.Reached == reached && (reached || q.Value == api.Rat{})
}
