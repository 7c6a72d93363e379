package reconstruct

import (
	"slices"

	"viator/api"
	"viator/intake"
	"viator/movingpoint"
	"viator/plane"
	"viator/rational"
)

// Compatible reports whether a report can be followed by another one, and Chain returns the indices of the longest chain of reports.
func Compatible(a, b intake.Timed, s api.Settings) bool {
	duration := rational.Sub(b.T, a.T)
	if rational.Sign(duration) <= 0 {
		return false
	}
	reach := rational.Mul(rational.FromInt(s.MaxSpeed), duration)
	return rational.Compare(plane.Distance2(spot(a), spot(b)), rational.Mul(reach, reach)) <= 0
}

// spot returns the point of a report.
func spot(r intake.Timed) api.Point { return plane.At(r.Report.X, r.Report.Y) }

func Chain(l []intake.Timed, s api.Settings) []int {
	if len(l) == 0 {
		return nil
	}
	lengths, next := longest(l, s)
	k := slices.Index(lengths, slices.Max(lengths))
	var chain []int
	for ; k != none; k = next[k] {
		chain = append(chain, k)
	}
	return chain
}

// none follows the last report of a chain.
const none = -1

// longest returns, for each report, the length of the longest chain that begins with it, and the report that follows in this chain; of several ones, the first one.
func longest(l []intake.Timed, s api.Settings) (lengths, next []int) {
	lengths, next = make([]int, len(l)), make([]int, len(l))
	for i := len(l) - 1; i >= 0; i-- {
		lengths[i], next[i] = 1, none
		for j := i + 1; j < len(l); j++ {
			if lengths[j] >= lengths[i] && Compatible(l[i], l[j], s) {
				lengths[i], next[i] = lengths[j]+1, j
			}
		}
	}
	return lengths, next
}

// Through returns the moving point through the reports of a chain.
func Through(l []intake.Timed, s api.Settings) []api.PointUnit {
	var units []api.PointUnit
	var run []movingpoint.Sample // the reports since the last gap
	for k, r := range l {
		run = append(run, movingpoint.Sample{T: r.T, P: spot(r)})
		if k+1 == len(l) || apart(r, l[k+1], s) {
			part, _ := movingpoint.FromSamples(run)
			units = append(units, part...)
			run = nil
		}
	}
	return units
}

// apart tells whether there is a gap between two neighbours of a chain.
func apart(a, b intake.Timed, s api.Settings) bool {
	return rational.Compare(rational.Sub(b.T, a.T), rational.FromInt(s.MaxGap)) > 0
}
