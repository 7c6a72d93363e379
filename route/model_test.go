package route_test

import (
	"slices"
	"strings"

	"viator/api"
	"viator/draws"
	"viator/lists"
	"viator/network"
	"viator/notation"
	"viator/rational"
	"viator/real"
	"viator/route"
	"viator/towns"
)

// The strings of the tests are those of package notation.
var (
	rat       = notation.Rat
	town      = notation.Network
	showTown  = notation.ShowNetwork
	place     = notation.Place
	showPlace = notation.ShowPlace
	points    = notation.PointUnits
	labels    = notation.LabelUnits
)

// legs returns the legs of a string like "0 5 1@0 5; 5 11 2@0 3": the times From and To, the road with the offset A, and B. show returns such a string.
func legs(s string) []route.Leg {
	var l []route.Leg
	for _, part := range strings.Split(s, ";") {
		if words := strings.Fields(part); len(words) > 0 {
			first := place(words[2])
			l = append(l, route.Leg{From: rat(words[0]), To: rat(words[1]), Road: first.Road, A: first.Offset, B: rat(words[3])})
		}
	}
	return l
}

func show(l []route.Leg) string {
	return strings.Join(lists.Convert(l, func(leg route.Leg) string {
		return rational.Print(leg.From) + " " + rational.Print(leg.To) + " " + showPlace(first(leg)) + " " + rational.Print(leg.B)
	}), "; ")
}

// stops returns the stops of a string like "0 1@0; 5 1@5", and showStops such a string.
func stops(s string) []route.Stop {
	var l []route.Stop
	for _, part := range strings.Split(s, ";") {
		if words := strings.Fields(part); len(words) > 0 {
			l = append(l, route.Stop{Time: rat(words[0]), Place: place(words[1])})
		}
	}
	return l
}

func showStops(l []route.Stop) string {
	return strings.Join(lists.Convert(l, func(s route.Stop) string {
		return rational.Print(s.Time) + " " + showPlace(s.Place)
	}), "; ")
}

// first and last return the positions at the ends of a leg.
func first(l route.Leg) api.Place { return api.Place{Road: l.Road, Offset: l.A} }
func last(l route.Leg) api.Place  { return api.Place{Road: l.Road, Offset: l.B} }

// quotient returns a / b.
func quotient(a, b api.Rat) api.Rat {
	q, _ := rational.Div(a, b)
	return q
}

// between returns the number that is as far from a to b as r from 0 to 1.
func between(a, b, r api.Rat) api.Rat {
	return rational.Add(a, rational.Mul(r, rational.Sub(b, a)))
}

// position returns the position at a time by the words of the chapter, and the index of the leg that gives it, or -1.
func position(l []route.Leg, t api.Rat) (api.Place, int) {
	for k, leg := range l {
		if rational.Compare(leg.From, t) <= 0 && rational.Compare(t, leg.To) <= 0 {
			share := quotient(rational.Sub(t, leg.From), rational.Sub(leg.To, leg.From))
			return api.Place{Road: leg.Road, Offset: between(leg.A, leg.B, share)}, k
		}
	}
	return api.Place{}, -1
}

// times returns the ends of all legs, times between them, and times before and behind all legs, in order.
func times(l []route.Leg) []api.Rat {
	list := []api.Rat{rat("-1000"), rat("1000")}
	for _, leg := range l {
		list = append(list, leg.From, leg.To)
		for _, share := range []string{"1/2", "1/3", "-1/1000", "1001/1000"} {
			list = append(list, between(leg.From, leg.To, rat(share)))
		}
	}
	slices.SortFunc(list, rational.Compare)
	return slices.Compact(list)
}

// contains tells whether an interval of time contains a rational instant.
func contains(in api.Interval, t api.Rat) bool {
	from, to := real.CompareRat(in.From, t), real.CompareRat(in.To, t)
	return (from < 0 || from == 0 && !in.OpenFrom) && (to > 0 || to == 0 && !in.OpenTo)
}

// joined returns the normal route: as long as two legs are one, they are joined.
func joined(l []route.Leg) []route.Leg {
	for k := 0; k+1 < len(l); k++ {
		a, b := l[k], l[k+1]
		sameRate := rational.Mul(rational.Sub(a.B, a.A), rational.Sub(b.To, b.From)) == rational.Mul(rational.Sub(b.B, b.A), rational.Sub(a.To, a.From))
		if a.To == b.From && a.Road == b.Road && a.B == b.A && sameRate {
			whole := route.Leg{From: a.From, To: b.To, Road: a.Road, A: a.A, B: b.B}
			return joined(slices.Concat(l[:k], []route.Leg{whole}, l[k+2:]))
		}
	}
	return l
}

// driver drives vehicles without a plan.
type driver struct{ draw func(below int) int }

func (d *driver) fraction() api.Rat {
	r, _ := rational.FromInts(1+d.draw(6), 1+d.draw(3))
	return r
}

// drive returns a valid route with up to 8 legs; some of its neighbouring legs are one.
func (d *driver) drive(n api.Network) []route.Leg {
	all := towns.Places(n)
	if len(all) == 0 {
		return nil
	}
	var l []route.Leg
	t, at := rational.FromInt(d.draw(9)-4), all[d.draw(len(all))]
	for range d.draw(9) {
		if d.draw(6) == 0 { // a gap, behind which the vehicle is somewhere else
			t, at = rational.Add(t, d.fraction()), all[d.draw(len(all))]
		}
		at = d.turn(n, at)
		leg := route.Leg{From: t, To: rational.Add(t, d.fraction()), Road: at.Road, A: at.Offset, B: at.Offset}
		road, _ := network.Road(n, at.Road)
		if d.draw(4) > 0 {
			leg.B = quotient(rational.FromInt(d.draw(2*road.Length+1)), rational.FromInt(2))
		}
		if road.OneWay && rational.Compare(leg.B, leg.A) < 0 {
			leg.B = rational.FromInt(road.Length)
		}
		if d.draw(4) == 0 { // the same in two parts
			share := quotient(rational.FromInt(1+d.draw(3)), rational.FromInt(4))
			half := leg
			half.To, half.B = between(leg.From, leg.To, share), between(leg.A, leg.B, share)
			leg.From, leg.A = half.To, half.B
			l = append(l, half)
		}
		l = append(l, leg)
		t, at = leg.To, last(leg)
	}
	return l
}

// turn returns a position that is the same as one.
func (d *driver) turn(n api.Network, p api.Place) api.Place {
	same := slices.DeleteFunc(towns.Places(n), func(q api.Place) bool { return !network.Same(n, p, q) })
	if len(same) == 0 {
		return p
	}
	return same[d.draw(len(same))]
}

// everyRoute calls a function with the networks of package towns and routes on them.
func everyRoute(f func(n api.Network, l []route.Leg)) {
	d := &driver{draws.From(1)}
	for _, n := range towns.Networks() {
		for range 15 {
			f(n, d.drive(n))
		}
	}
}

// wrong returns fractions that are not canonical.
func wrong() []api.Rat {
	var list []api.Rat
	for _, x := range notation.Wrong() {
		if rational.Check(x.P) != api.OK {
			list = append(list, x.P)
		}
	}
	return list
}
