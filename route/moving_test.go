package route_test

import (
	"slices"
	"testing"

	"viator/api"
	"viator/movinglabel"
	"viator/movingpoint"
	"viator/network"
	"viator/notation"
	"viator/period"
	"viator/plane"
	"viator/rational"
	"viator/real"
	"viator/route"
	"viator/towns"
)

func TestP24_3Examples(t *testing.T) {
	const round = "0 3 3@0 3; 3 4 1@0 5; 4 6 2@0 6; 6 7 2@6 6; 7 8 3@0 1"
	n := town(towns.Example)
	for _, c := range []struct {
		s, t, want string
		found      bool
	}{
		{way, "5/2", "1@5/2", true}, {way, "0", "1@0", true}, {way, "5", "1@5", true}, {way, "7", "2@1", true}, {way, "11", "2@3", true}, {way, "12", "0@0", false}, {way, "-1/2", "0@0", false}, {way, "11001/1000", "0@0", false}, {"", "0", "0@0", false},
		// The first leg gives the position, on its road.
		{round, "3", "3@3", true}, {round, "4", "1@5", true}, {round, "6", "2@6", true}, {round, "13/2", "2@6", true}, {round, "7", "2@6", true}, {round, "15/2", "3@1/2", true}, {"0 1 1@5 0; 2 3 1@5 4", "3/2", "0@0", false}, {"0 1 1@5 0; 2 3 1@5 4", "2", "1@5", true}, {"0 1 1@5 0; 2 3 1@5 4", "1", "1@0", true},
	} {
		if p, found := route.At(n, legs(c.s), rat(c.t)); showPlace(p) != c.want || found != c.found {
			t.Errorf("At(%s; %s) = %s, %v; want %s", c.s, c.t, showPlace(p), found, c.want)
		}
	}
	for _, c := range []struct{ s, point, roads string }{
		{"", "", ""}, {way, "[0 5] 0,3/5 0,4/5; (5 11] 3 17/3,-1/3", "[0 5] 1; (5 11] 2"}, {"0 2 1@0 2; 2 5 1@2 5", "[0 5] 0,3/5 0,4/5", "[0 5] 1"}, {"0 1 1@5 0; 2 3 1@5 5", "[0 1] 3,-3 4,-4; [2 3] 3 4", "[0 1] 1; [2 3] 1"}, {"0 1 1@5 5; 1 2 2@0 0", "[0 2] 3 4", "[0 1] 1; (1 2] 2"},
	} {
		p, r := route.Moving(n, legs(c.s)), route.Roads(legs(c.s))
		if notation.ShowPointUnits(p) != c.point || notation.ShowLabelUnits(r) != c.roads {
			t.Errorf("%s: %s with %s", c.s, notation.ShowPointUnits(p), notation.ShowLabelUnits(r))
		}
	}
}

func TestP24_3(t *testing.T) {
	everyRoute(func(n api.Network, l []route.Leg) {
		p, r := route.Moving(n, l), route.Roads(l)
		if movingpoint.Check(p) != api.OK || movinglabel.Check(r) != api.OK {
			t.Errorf("%s; %s: %s with %s", showTown(n), show(l), notation.ShowPointUnits(p), notation.ShowLabelUnits(r))
		}
		var during []api.Interval
		for _, leg := range l {
			during = period.Union(during, period.Closed(leg.From, leg.To))
		}
		if !period.Equal(movingpoint.Domain(p), during) || !period.Equal(movinglabel.Domain(r), during) {
			t.Errorf("%s; %s: %s with %s", showTown(n), show(l), notation.ShowPointUnits(p), notation.ShowLabelUnits(r))
		}
		for _, at := range times(l) {
			want, k := position(l, at)
			got, found := route.At(n, l, at)
			if got != want || found != (k >= 0) {
				t.Errorf("%s: At(%s; %s) = %s, %v; want %s", showTown(n), show(l), rational.Print(at), showPlace(got), found, showPlace(want))
			}
			spot, is := movingpoint.AtRat(p, at)
			road, on := movinglabel.At(r, real.FromRat(at))
			point, _ := network.Point(n, want)
			if is != found || on != found || road != want.Road || spot != point {
				t.Errorf("%s; %s: at %s there are %v and %d; want %v", showTown(n), show(l), rational.Print(at), spot, road, point)
			}
		}
	})
}

func TestP24_4Examples(t *testing.T) {
	const (
		piled  = "1 0 0, 2 0 0, 3 4 0 | 1 1-2 5, 2 2-3 4"
		cross  = "1 -2 0, 2 2 0, 3 0 -2, 4 0 2 | 1 1-2 4, 2 3-4 4"
		square = "1 0 0, 2 4 0 | 3 1>2 8, 4 1-2 8"
	)
	for _, c := range []struct {
		n, p, roads, want string
		e                 api.Errno
	}{
		{towns.Example, "", "", "", api.OK}, {towns.Example, "[0 5] 0,3/5 0,4/5; (5 11] 3 17/3,-1/3", "[0 5] 1; (5 11] 2", way, api.OK}, {towns.Example, "[0 2] 3 4", "[0 1] 1; (1 2] 2", "0 1 1@5 5; 1 2 2@0 0", api.OK}, {towns.Example, "[0 2] 3 4; [5 6] 0 0", "[0 2] 2; [5 6] 3", "0 2 2@0 0; 5 6 3@3 3", api.OK}, {square, "[0 2] 0,1 0", "[0 2] 3", "0 2 3@0 4", api.OK}, {square, "[0 2] 2,-1 0", "[0 2] 4", "0 2 4@4 0", api.OK}, {square, "[0 2] 2 0", "[0 2] 3", "0 2 3@4 4", api.OK}, {square, "[0 2] 0,1 0", "[0 1] 3; (1 2] 4", "", api.ErrState}, {square, "[0 2] 0,1 0; (2 3] 4,-1 0", "[0 3] 4", "0 2 4@0 4; 2 3 4@4 2", api.OK},
		{towns.Example, "[0 2] 3 4", "", "", api.ErrUndefined}, {towns.Example, "", "[0 2] 1", "", api.ErrUndefined}, {towns.Example, "[0 2] 3 4", "[0 2) 1", "", api.ErrUndefined}, {towns.Example, "[0 2] 3 4", "[0 1] 1; [3/2 2] 1", "", api.ErrUndefined}, {towns.Example, "[0 2) 9 4", "[0 2] 9", "", api.ErrUndefined}, {towns.Example, "[0 1/2+sqrt(2)] 9 4", "[0 2] 9", "", api.ErrUndefined},
		{towns.Example, "[0 0+sqrt(2)] 3 4", "[0 0+sqrt(2)] 1", "", api.ErrTime}, {towns.Example, "[0-sqrt(2) 3] 9 4", "[0-sqrt(2) 3] 9", "", api.ErrTime}, {towns.Example, "[0 3] 3 4", "[0 0+sqrt(2)] 1; (0+sqrt(2) 3] 2", "", api.ErrTime}, {towns.Example, "[0 3] 3 4; (3 4] 3 4,1", "[0 0+sqrt(2)] 1; (0+sqrt(2) 4] 2", "", api.ErrTime},
		{towns.Example, "[0 1] 3 4", "[0 1] 4", "", api.ErrNotFound}, {towns.Example, "[0 1] 99 99", "[0 1] -1", "", api.ErrNotFound}, {towns.Example, "[0 1] 3 4; [2 3] 9 9", "[0 1] 1; [2 3] 8", "", api.ErrNotFound},
		{towns.Example, "[0 1] 9 9", "[0 1] 1", "", api.ErrShape}, {towns.Example, "[0 1] 0,3 0,5", "[0 1] 1", "", api.ErrShape}, {towns.Example, "[0 1] 0,6 0,8", "[0 1] 1", "", api.ErrShape}, {towns.Example, "[0 1] -3,6 -4,8", "[0 1] 1", "", api.ErrShape}, {piled, "[0 1] 0 0", "[0 1] 1", "", api.ErrShape}, {piled, "[0 1] 0 0", "[0 1] 2", "0 1 2@0 0", api.OK}, {towns.Example, "[0 1] 3 4,-8; (1 2] 3 -4", "[0 2] 2", "", api.ErrShape},
		{towns.Example, "[0 1] 3 0,4", "[0 1] 2", "", api.ErrDenied}, {square, "[0 2] 2,-1 0", "[0 2] 3", "", api.ErrDenied}, {square, "[0 2] 2,-1/1000 0", "[0 2] 3", "", api.ErrDenied},
		// The parts in order, and the errors of each one in order.
		{towns.Example, "[0 1] 3 0,4; [2 3] 9 9", "[0 1] 2; [2 3] 1", "", api.ErrDenied}, {towns.Example, "[0 1] 9 9; [2 3] 3,1 0,4", "[0 1] 2; [2 3] 7", "", api.ErrShape}, {towns.Example, "[0 1] 9 9; [2 2+sqrt(2)] 9 9", "[0 1] 1; [2 2+sqrt(2)] 2", "", api.ErrShape}, {towns.Example, "[0 1] 9 9; [2 2+sqrt(2)] 9 9", "[0 1] 5; [2 2+sqrt(2)] 2", "", api.ErrNotFound}, {towns.Example, "[0 0+sqrt(2)] 9 9", "[0 0+sqrt(2)] 5", "", api.ErrTime},
		// No route jumps, has a single instant alone, ends without its end, or is on the later road when two legs meet.
		{towns.Example, "[0 1] 3 4; (1 2] 0 0", "[0 2] 1", "", api.ErrState}, {towns.Example, "[0 1] 3 4; (1 2] 0 0", "[0 1] 1; (1 2] 3", "", api.ErrState}, {towns.Example, "[0 1] 3 4; [2 2] 3 4", "[0 1] 1; [2 2] 1", "", api.ErrState}, {towns.Example, "[2 2] 3 4", "[2 2] 1", "", api.ErrState}, {towns.Example, "[2 2] 99 99", "[2 2] 77", "", api.ErrState}, {towns.Example, "[0+sqrt(2) 0+sqrt(2)] 3 4", "[0+sqrt(2) 0+sqrt(2)] 1", "", api.ErrState}, {towns.Example, "[0 1) 3 4", "[0 1) 1", "", api.ErrState}, {towns.Example, "(0 1] 3 4", "(0 1] 1", "", api.ErrState}, {towns.Example, "[0 1) 3 4; (1 2] 3 4", "[0 1) 1; (1 2] 1", "", api.ErrState}, {towns.Example, "[0 2] 3 4", "[0 1) 1; [1 2] 2", "", api.ErrState}, {towns.Example, "[0 2] 3 4", "[0 1) 1; [1 1] 2; (1 2] 1", "", api.ErrState}, {towns.Example, "[0 1) 3 4; [1 1] 0 0; (1 2] 3 4", "[0 2] 1", "", api.ErrState},
		// At the crossing there is no node.
		{cross, "[0 2] 0 0", "[0 1] 1; (1 2] 2", "", api.ErrState}, {cross, "[0 1] -2,2 0; (1 2] 0 -1,1", "[0 1] 1; (1 2] 2", "", api.ErrState}, {cross, "[0 1] -2,2 0; [2 3] 0 -2,1", "[0 1] 1; [2 3] 2", "0 1 1@0 2; 2 3 2@2 3", api.OK},
		{towns.Example, "[0 1] 3 4; (1 2] 9 9", "[0 2] 1", "", api.ErrShape}, {towns.Example, "[0 1] 3 4; (1 2] 0 0", "[0 1] 1; (1 2] 7", "", api.ErrNotFound},
	} {
		p, r := points(c.p), labels(c.roads)
		if l, e := route.Lift(town(c.n), p, r); e != c.e || show(l) != c.want || e != api.OK && l != nil {
			t.Errorf("%s: Lift(%s with %s) = %s, %d; want %s, %d", c.n, c.p, c.roads, show(l), e, c.want, c.e)
		}
	}
}

// With more legs than permitted there is no route: the vehicle goes to and fro across a node, where the road changes, and turns between two such instants.
func TestP24_4Limit(t *testing.T) {
	n := town("1 0 0, 2 4 0, 3 -4 0 | 1 1-2 4, 2 1-3 4")
	for _, c := range []struct {
		turns, legs int
		e           api.Errno
	}{{100, 200, api.OK}, {128, 256, api.OK}, {129, 0, api.ErrState}, {150, 0, api.ErrState}} {
		var samples []movingpoint.Sample
		var r []api.LabelUnit
		for k := range c.turns + 1 {
			samples = append(samples, movingpoint.Sample{T: rational.FromInt(2 * k), P: plane.At(2-k%2*4, 0)})
			r = append(r, api.LabelUnit{In: api.Interval{From: real.FromInt(2*k - 1), To: real.FromInt(2*k + 1), OpenFrom: true}, Label: 1 + k%2})
		}
		p, e := movingpoint.FromSamples(samples)
		r = movinglabel.Restrict(r, movingpoint.Domain(p))
		if e != api.OK || movinglabel.Check(r) != api.OK {
			t.Fatal(e, len(p), len(r))
		}
		if l, e := route.Lift(n, p, r); e != c.e || len(l) != c.legs {
			t.Errorf("Lift with %d turns = %d legs, %d; want %d, %d", c.turns, len(l), e, c.legs, c.e)
		}
	}
}

// leads tells whether the roads of all legs lead from one point to another one.
func leads(n api.Network, l []route.Leg) bool {
	for _, leg := range l {
		r, _ := network.Road(n, leg.Road)
		from, _ := network.Node(n, r.From)
		to, _ := network.Node(n, r.To)
		if from.X == to.X && from.Y == to.Y {
			return false
		}
	}
	return true
}

// A route is a trajectory, from which it can be made again.
func TestP13(t *testing.T) {
	lifted, shapes := 0, 0
	everyRoute(func(n api.Network, l []route.Leg) {
		got, e := route.Lift(n, route.Moving(n, l), route.Roads(l))
		switch {
		case !leads(n, l):
			shapes++
			if e != api.ErrShape || got != nil {
				t.Errorf("%s; %s: Lift = %s, %d", showTown(n), show(l), show(got), e)
			}
		case e != api.OK || !slices.Equal(got, joined(l)):
			t.Errorf("%s; %s: Lift = %s, %d", showTown(n), show(l), show(got), e)
		default:
			lifted++
		}
	})
	if lifted < 400 || shapes < 50 {
		t.Errorf("%d routes, %d on roads that are points", lifted, shapes)
	}
}

// What Lift returns has the moving point and the moving label, also if they are not those of a route.
func TestP24_4(t *testing.T) {
	count := map[api.Errno]int{}
	everyRoute(func(n api.Network, l []route.Leg) {
		p, r := route.Moving(n, l), route.Roads(l)
		for k := range 3 {
			middle := rational.FromInt(k + 1)
			cut := api.Interval{From: real.FromRat(middle), To: real.FromInt(k + 2), OpenFrom: k == 1, OpenTo: k == 2}
			changes := [][]api.LabelUnit{movinglabel.Patch(r, movinglabel.Restrict(movinglabel.Constant(k+1, []api.Interval{cut}), movinglabel.Domain(r)))}
			for _, changed := range append(changes, r) {
				for _, q := range [][]api.PointUnit{p, movingpoint.Restrict(p, period.Minus(movingpoint.Domain(p), []api.Interval{cut}))} {
					got, e := route.Lift(n, q, movinglabel.Restrict(changed, movingpoint.Domain(q)))
					count[e]++
					if e != api.OK {
						continue
					}
					if route.Check(n, got) != api.OK || !movingpoint.Same(route.Moving(n, got), q) || !movinglabel.Equal(route.Roads(got), movinglabel.Restrict(changed, movingpoint.Domain(q))) || !slices.Equal(got, joined(got)) {
						t.Errorf("%s; %s with %s: Lift = %s", showTown(n), notation.ShowPointUnits(q), notation.ShowLabelUnits(changed), show(got))
					}
				}
			}
		}
	})
	for _, e := range []api.Errno{api.OK, api.ErrNotFound, api.ErrShape, api.ErrDenied, api.ErrState} {
		if count[e] < 20 {
			t.Errorf("the error %d occurs %d times", e, count[e])
		}
	}
}

func TestP24_5Fast(t *testing.T) {
	const n = "1 0 0, 2 3 4, 3 3 0 | 1 1-2 5, 2 2>3 6 2, 3 3>1 3"
	for _, c := range []struct{ s, want string }{
		{way, ""}, {"0 4 1@0 5", "[0 4]"}, {"0 5 1@0 5", ""}, {"0 4999/1000 1@0 5", "[0 4999/1000]"}, {"0 4 1@5 0", "[0 4]"}, {"0 5 1@5 0", ""}, {"0 3 2@0 6", ""}, {"0 2 2@0 6", "[0 2]"}, {"0 4 1@0 5; 4 6 2@0 6; 6 20 3@0 1", "[0 6]"}, {"0 4 1@0 5; 4 40 2@0 6; 40 41 3@0 2", "[0 4], [40 41]"}, {"0 4 1@0 5; 5 6 1@5 3", "[0 4], [5 6]"}, {"0 40 1@0 5; 40 41 1@5 2; 41 45 1@2 2", "[40 41]"}, {"", ""}, {"0 1 1@3 3", ""},
	} {
		if got := route.Fast(town(n), legs(c.s)); notation.ShowPeriod(got) != c.want {
			t.Errorf("Fast(%s) = %s; want %s", c.s, notation.ShowPeriod(got), c.want)
		}
	}
	everyRoute(func(n api.Network, l []route.Leg) {
		var want []api.Interval
		for _, leg := range l {
			r, _ := network.Road(n, leg.Road)
			farthest := rational.Mul(rational.FromInt(r.Limit), rational.Sub(leg.To, leg.From))
			if rational.Compare(rational.Abs(rational.Sub(leg.B, leg.A)), farthest) > 0 {
				want = period.Union(want, period.Closed(leg.From, leg.To))
			}
		}
		if got := route.Fast(n, l); !period.Equal(got, want) {
			t.Errorf("%s: Fast(%s) = %s; want %s", showTown(n), show(l), notation.ShowPeriod(got), notation.ShowPeriod(want))
		}
	})
}

func TestP24_6NodesExamples(t *testing.T) {
	for _, c := range []struct{ s, want string }{
		{way, "0 1@0; 5 1@5"}, {"0 3 3@0 3; 3 4 1@0 5; 4 6 2@0 6; 6 7 2@6 6; 7 8 3@0 1", "0 2@6; 3 1@0; 4 1@5; 6 2@6; 7 2@6"}, {"0 1 1@1 2; 1 2 1@2 5", "2 1@5"}, {"0 1 3@3 3; 2 3 3@3 3", "0 1@0; 1 1@0; 2 1@0; 3 1@0"}, {"0 1 1@5 5; 1 2 2@0 0", "0 1@5; 1 1@5; 2 1@5"}, {"0 1 1@1 2", ""}, {"", ""}, {"0 1 1@5 5; 1 2 1@5 4; 2 3 1@4 5", "0 1@5; 1 1@5; 3 1@5"},
	} {
		if got := route.Nodes(town(towns.Example), legs(c.s)); showStops(got) != c.want {
			t.Errorf("Nodes(%s) = %s; want %s", c.s, showStops(got), c.want)
		}
	}
}

func TestP24_6Nodes(t *testing.T) {
	everyRoute(func(n api.Network, l []route.Leg) {
		var want []route.Stop
		for _, at := range times(l) {
			ends := slices.ContainsFunc(l, func(leg route.Leg) bool { return leg.From == at || leg.To == at })
			p, k := position(l, at)
			if node, is := network.NodeAt(n, p); ends && k >= 0 && is {
				normal, _ := network.At(n, node)
				want = append(want, route.Stop{Time: at, Place: normal})
			}
		}
		if got := route.Nodes(n, l); !slices.Equal(got, want) {
			t.Errorf("%s: Nodes(%s) = %s; want %s", showTown(n), show(l), showStops(got), showStops(want))
		}
	})
}

// On a straight line the vehicle is not faster than along the road.
func TestP24_7Speed(t *testing.T) {
	everyRoute(func(n api.Network, l []route.Leg) {
		speed := movingpoint.Speed2(route.Moving(n, l))
		for _, leg := range l {
			rate := quotient(rational.Sub(leg.B, leg.A), rational.Sub(leg.To, leg.From))
			middle := real.FromRat(between(leg.From, leg.To, rat("1/2")))
			for _, u := range speed {
				if period.Contains([]api.Interval{u.In}, middle) && (u.F.C1 != api.Rat{} || u.F.C2 != api.Rat{} || rational.Compare(u.F.C0, rational.Mul(rate, rate)) > 0) {
					t.Errorf("%s; %s: the squared speed is %s", showTown(n), show(l), notation.ShowNumberUnits(speed))
				}
			}
		}
	})
}

// Nothing is specified for routes and networks that are not valid; but nothing panics, and everything ends.
func TestInvalid(t *testing.T) {
	broken := []api.Network{{}, town("1 0 0 | 1 1-2 8, 2 2>1 -3"), town("| 7 3-3 0, 1 0-0 1"), town(towns.Example)}
	bad := wrong()[0]
	for _, n := range broken {
		for _, l := range [][]route.Leg{
			legs("0 0 1@0 0; 0 0 1@0 0"), legs("5 1 1@0 7; 0 9 4@-1 3; 2 3 1@3 3"), {{From: bad, To: bad, A: bad, B: bad, Road: 1}, {From: bad, Road: 1}}, {{Road: 1, To: api.Rat{Num: rat("1").Num, Den: bad.Num}}},
		} {
			route.Check(n, l)
			route.Normal(l)
			p, r := route.Moving(n, l), route.Roads(l)
			route.Lift(n, p, r)
			route.At(n, l, rat("1"))
			route.Fast(n, l)
			route.Nodes(n, l)
			route.Passed(l, rat("1"))
			route.Restrict(l, rat("0"), bad)
		}
		route.Lift(n, points("[0 5] 0,3/5 0,4/5; (5 11] 3 17/3,-1/3"), labels("[0 5] 1; (5 11] 2"))
		route.FromStops(n, stops("0 1@0; 1 1@1; 2 7@5"))
	}
}
