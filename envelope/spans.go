package envelope

import (
	"cmp"
	"iter"
	"slices"

	"viator/api"
	"viator/real"
)

// end is where a period, which is given by its number, begins (then step is 1) or ceases (then it is -1): directly before an instant, or directly behind it (then behind is 1).
type end struct {
	at           api.Real
	behind       int
	period, step int
}

func compare(x, y end) int {
	return cmp.Or(real.Compare(x.at, y.at), cmp.Compare(x.behind, y.behind))
}

// spans yields the longest intervals during which the same ones of some periods last, and at least one, and for each period whether it does. What is yielded changes afterwards.
func spans(periods [][]api.Interval) iter.Seq2[api.Interval, []bool] {
	return func(yield func(in api.Interval, lasts []bool) bool) {
		lasts, count := make([]bool, len(periods)), 0
		list := ends(periods)
		for k, x := range list {
			lasts[x.period] = x.step > 0
			count += x.step
			if count == 0 || compare(x, list[k+1]) == 0 {
				continue
			}
			if !yield(between(x, list[k+1]), lasts) {
				return
			}
		}
	}
}

// ends returns the ends of the intervals of periods, in order.
func ends(periods [][]api.Interval) []end {
	var list []end
	for k, p := range periods {
		for _, in := range p {
			from, to := end{at: in.From, period: k, step: 1}, end{at: in.To, behind: 1, period: k, step: -1}
			if in.OpenFrom {
				from.behind = 1
			}
			if in.OpenTo {
				to.behind = 0
			}
			list = append(list, from, to)
		}
	}
	slices.SortFunc(list, compare)
	return list
}

// between returns the interval from one end to a later one.
func between(x, y end) api.Interval {
	return api.Interval{From: x.at, To: y.at, OpenFrom: x.behind == 1, OpenTo: y.behind == 0}
}
