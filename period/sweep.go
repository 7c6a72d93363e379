package period

import (
	"slices"

	"viator/api"
	"viator/real"
)

// cut divides the instants into those before it and those behind it. It is directly before the instant at, which is then behind it, or directly behind this instant.
type cut struct {
	at     api.Real
	behind bool
}

// begin and end return the cuts between which the instants of an interval are, and between returns the interval of two cuts.
func begin(i api.Interval) cut { return cut{at: i.From, behind: i.OpenFrom} }
func end(i api.Interval) cut   { return cut{at: i.To, behind: !i.OpenTo} }

func between(from, to cut) api.Interval {
	return api.Interval{From: from.at, To: to.at, OpenFrom: from.behind, OpenTo: !to.behind}
}

// compare returns -1, 0 or 1 as a cut is before another one, the same, or behind it.
func compare(c, d cut) int {
	switch order := real.Compare(c.at, d.at); {
	case order != 0:
		return order
	case c.behind == d.behind:
		return 0
	case d.behind:
		return -1
	}
	return 1
}

// Normal returns the union of intervals.
func Normal(l []api.Interval) []api.Interval { return Union(l, nil) }

// Union, Intersect and Minus return the instants of one or the other, of both, and of the first but not of the second period.
func Union(a, b []api.Interval) []api.Interval {
	return sweep(a, b, func(inA, inB bool) bool { return inA || inB })
}

func Intersect(a, b []api.Interval) []api.Interval {
	return sweep(a, b, func(inA, inB bool) bool { return inA && inB })
}

func Minus(a, b []api.Interval) []api.Interval {
	return sweep(a, b, func(inA, inB bool) bool { return inA && !inB })
}

// border is an end of an interval: behind it, one interval of a list more (or less, if step is -1) contains the instants.
type border struct {
	cut
	list, step int
}

// sweep returns the instants that are wanted, as is told from which ones of two lists contain them. None is wanted that neither contains.
func sweep(a, b []api.Interval, wanted func(inA, inB bool) bool) []api.Interval {
	var (
		period []api.Interval
		from   cut
		inside bool // whether the instants before the border are wanted: those from the cut from on
		counts [2]int
	)
	list := borders(a, b)
	for k, next := range list {
		counts[next.list] += next.step
		if k+1 < len(list) && list[k+1].cut == next.cut {
			continue // no instant is between both
		}
		switch now := wanted(counts[0] > 0, counts[1] > 0); {
		case now && !inside:
			from, inside = next.cut, true
		case !now && inside:
			period, inside = append(period, between(from, next.cut)), false
		}
	}
	return period
}

// borders returns the ends of the intervals of lists, in order.
func borders(lists ...[]api.Interval) []border {
	var all []border
	for k, list := range lists {
		for _, i := range list {
			all = append(all, border{begin(i), k, 1}, border{end(i), k, -1})
		}
	}
	// Comparisons cost most, and the stable sort makes few of them where the lists are in order, as those of periods are.
	slices.SortStableFunc(all, func(x, y border) int { return compare(x.cut, y.cut) })
	return all
}
