package simplify

import (
	"slices"

	"viator/api"
	"viator/linear"
	"viator/lists"
	"viator/movingpoint"
	"viator/plane"
	"viator/rational"
)

// Deviation2 returns the greatest squared distance between a run and the straight way from one breakpoint to another one, and Error2 that of the ways between kept breakpoints.
func Deviation2(r Run, from, to int) (api.Rat, api.Errno) {
	last := len(r.Points) - 1
	switch {
	case last == 0 && from == 0 && to == 0:
		return api.Rat{}, api.OK
	case from < 0 || from >= to || to > last:
		return api.Rat{}, api.ErrRange
	}
	way := straight(r.Points[from], r.Points[to])
	var most api.Rat
	for _, s := range r.Points[from+1 : to] {
		most = rational.Max(most, distance2(way, s))
	}
	return most, api.OK
}

// distance2 returns the squared distance of a breakpoint from a way.
func distance2(way api.Line, s movingpoint.Sample) api.Rat {
	return plane.Distance2(linear.AtRat(way, s.T), s.P)
}

func Error2(r Run, kept []int) (api.Rat, api.Errno) {
	if e := checkKept(r, kept); e != api.OK {
		return api.Rat{}, e
	}
	var most api.Rat
	for from, to := range lists.Neighbours(kept) {
		d, _ := Deviation2(r, from, to)
		most = rational.Max(most, d)
	}
	return most, api.OK
}

// Kept returns the fewest breakpoints that are enough for a distance, and Greedy those that are found from the beginning on.
func Kept(r Run, distance api.Rat) ([]int, api.Errno) {
	if rational.Sign(distance) < 0 {
		return nil, api.ErrRange
	}
	limit2 := rational.Mul(distance, distance)
	last := len(r.Points) - 1
	// How many breakpoints follow each one in the shortest list from there to the last one, and the next one of them; of several ones, the first one.
	lengths, next := make([]int, last+1), make([]int, last+1)
	for k := last - 1; k >= 0; k-- {
		lengths[k] = len(lengths)
		for j := k + 1; j <= last; j++ {
			if lengths[j]+1 < lengths[k] && isEnough(r, k, j, limit2) {
				lengths[k], next[k] = lengths[j]+1, j
			}
		}
	}
	kept := []int{0}
	for k := 0; k < last; k = next[k] {
		kept = append(kept, next[k])
	}
	return kept, api.OK
}

// isEnough tells whether no square of the distance between a run and the straight way from one breakpoint to a later one is greater than a limit.
func isEnough(r Run, from, to int, limit2 api.Rat) bool {
	way := straight(r.Points[from], r.Points[to])
	return !slices.ContainsFunc(r.Points[from+1:to], func(s movingpoint.Sample) bool {
		return rational.Compare(distance2(way, s), limit2) > 0
	})
}

func Greedy(r Run, distance api.Rat) ([]int, api.Errno) {
	if rational.Sign(distance) < 0 {
		return nil, api.ErrRange
	}
	limit2 := rational.Mul(distance, distance)
	last := len(r.Points) - 1
	kept := []int{0}
	for k := 0; k < last; {
		next := last
		for !isEnough(r, k, next, limit2) {
			next--
		}
		k = next
		kept = append(kept, k)
	}
	return kept, api.OK
}
