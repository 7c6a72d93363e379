package route

import (
	"slices"

	"viator/api"
	"viator/linear"
	"viator/lists"
	"viator/movinglabel"
	"viator/movingpoint"
	"viator/network"
	"viator/period"
	"viator/rational"
	"viator/real"
)

// At returns the position at a time, Moving the route as a moving point, and Roads the roads as a moving label.
func At(n api.Network, l []Leg, t api.Rat) (api.Place, bool) {
	for _, leg := range l {
		if rational.Compare(leg.From, t) <= 0 && rational.Compare(t, leg.To) <= 0 {
			return at(leg, t).Place, true
		}
	}
	return api.Place{}, false
}

func Moving(n api.Network, l []Leg) []api.PointUnit {
	var units []api.PointUnit
	for k, leg := range l {
		from, _ := network.Point(n, begin(leg).Place)
		to, _ := network.Point(n, end(leg).Place)
		f, _ := linear.Between(leg.From, from, leg.To, to)
		units = append(units, api.PointUnit{In: interval(l, k), F: f})
	}
	moving, _ := movingpoint.Normal(units)
	return moving
}

func Roads(l []Leg) []api.LabelUnit {
	var units []api.LabelUnit
	for k, leg := range l {
		units = append(units, api.LabelUnit{In: interval(l, k), Label: leg.Road})
	}
	labels, _ := movinglabel.Normal(units)
	return labels
}

// interval returns the times at which a leg of a list gives the position.
func interval(l []Leg, k int) api.Interval {
	return api.Interval{From: real.FromRat(l[k].From), To: real.FromRat(l[k].To), OpenFrom: order(l, k) == 0}
}

// Fast returns the period of travelling faster than permitted.
func Fast(n api.Network, l []Leg) []api.Interval {
	limits := lists.Keyed(n.Roads, func(r api.Road) int { return r.Id })
	var fast []api.Interval
	for _, leg := range l {
		if limit := rational.FromInt(limits[leg.Road].Limit); rational.Compare(rational.Abs(rate(leg)), limit) > 0 {
			fast = append(fast, period.Closed(leg.From, leg.To)...)
		}
	}
	return period.Normal(fast)
}

// Nodes returns the nodes at which a route is, with the times.
func Nodes(n api.Network, l []Leg) []Stop {
	var stops []Stop
	for _, leg := range l {
		for _, s := range [...]Stop{begin(leg), end(leg)} {
			if _, is := network.NodeAt(n, s.Place); is {
				s.Place, _ = network.Normal(n, s.Place)
				stops = append(stops, s)
			}
		}
	}
	return slices.Compact(stops) // a leg can begin where and when the leg before ends
}
