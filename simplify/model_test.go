package simplify_test

import (
	"slices"
	"strings"

	"viator/api"
	"viator/draws"
	"viator/lists"
	"viator/movingpoint"
	"viator/notation"
	"viator/plane"
	"viator/rational"
	"viator/real"
	"viator/simplify"
)

// The strings of the tests are those of package notation.
var (
	rat       = notation.Rat
	units     = notation.PointUnits
	showUnits = notation.ShowPointUnits
)

// runOf returns the run of a string like "[0 2) 0 0,0; 1/2 1,1; 2 3": the interval, and the times and positions of the breakpoints. showRun returns such a string.
func runOf(s string) simplify.Run {
	k := strings.LastIndexAny(s, ")]") + 1
	r := simplify.Run{In: notation.Interval(s[:k])}
	for _, part := range strings.Split(s[k:], ";") {
		words := strings.Fields(part)
		r.Points = append(r.Points, movingpoint.Sample{T: rat(words[0]), P: notation.Point(words[1])})
	}
	return r
}

func showRun(r simplify.Run) string {
	return notation.ShowInterval(r.In) + " " + strings.Join(lists.Convert(r.Points, func(s movingpoint.Sample) string {
		return rational.Print(s.T) + " " + notation.ShowPair(s.P.X, s.P.Y)
	}), "; ")
}

// runsOf returns the runs of a string like "[0 0] 0 0 | [1 2) 1 1,1; 2 3", and showRuns such a string.
func runsOf(s string) []simplify.Run {
	if s == "" {
		return nil
	}
	return lists.Convert(strings.Split(s, " | "), runOf)
}

func showRuns(l []simplify.Run) string { return strings.Join(lists.Convert(l, showRun), " | ") }

// through returns the closed run with points at the times 0, 1, and so on, between which a string has spaces.
func through(s string) simplify.Run {
	var r simplify.Run
	for k, word := range strings.Fields(s) {
		r.Points = append(r.Points, movingpoint.Sample{T: rational.FromInt(k), P: notation.Point(word)})
	}
	r.In.To = real.FromInt(len(r.Points) - 1)
	return r
}

// The following functions tell by the words of the chapter what the functions return.

// straightAt returns the position of the straight way between two breakpoints at an instant.
func straightAt(from, to movingpoint.Sample, t api.Rat) api.Point {
	part, e := rational.Div(rational.Sub(t, from.T), rational.Sub(to.T, from.T))
	if e != api.OK {
		panic("both breakpoints are at the same time")
	}
	return plane.Divide(api.Segment{A: from.P, B: to.P}, part)
}

// deviation returns the deviation of the straight way between two breakpoints.
func deviation(r simplify.Run, from, to int) api.Rat {
	var most api.Rat
	for k := from + 1; k < to; k++ {
		away := plane.Sub(r.Points[k].P, straightAt(r.Points[from], r.Points[to], r.Points[k].T))
		most = rational.Max(most, rational.Add(rational.Mul(away.X, away.X), rational.Mul(away.Y, away.Y)))
	}
	return most
}

// errorOf returns the error of kept breakpoints.
func errorOf(r simplify.Run, kept []int) api.Rat {
	var most api.Rat
	for k := range len(kept) - 1 {
		most = rational.Max(most, deviation(r, kept[k], kept[k+1]))
	}
	return most
}

// enough tells whether kept breakpoints are enough for a distance.
func enough(r simplify.Run, kept []int, distance api.Rat) bool {
	return rational.Compare(errorOf(r, kept), rational.Mul(distance, distance)) <= 0
}

// choices returns all lists of kept breakpoints.
func choices(r simplify.Run) [][]int {
	last := len(r.Points) - 1
	var all [][]int
	for set := range 1 << max(last-1, 0) {
		kept := []int{0}
		for k := 1; k < last; k++ {
			if set>>(k-1)&1 == 1 {
				kept = append(kept, k)
			}
		}
		if last > 0 {
			kept = append(kept, last)
		}
		all = append(all, kept)
	}
	return all
}

// best returns the best kept breakpoints for a distance.
func best(r simplify.Run, distance api.Rat) []int {
	var least []int
	for _, kept := range choices(r) {
		if enough(r, kept, distance) && (least == nil || len(kept) < len(least) || len(kept) == len(least) && slices.Compare(kept, least) < 0) {
			least = kept
		}
	}
	return least
}

// greedy returns the kept breakpoints each of which is the farthest one from the one before.
func greedy(r simplify.Run, distance api.Rat) []int {
	kept := []int{0}
	for k := 0; k < len(r.Points)-1; {
		for j := k + 1; j < len(r.Points); j++ {
			if rational.Compare(deviation(r, kept[len(kept)-1], j), rational.Mul(distance, distance)) <= 0 {
				k = j
			}
		}
		kept = append(kept, k)
	}
	return kept
}

// runs returns runs with up to 9 breakpoints, some of which begin or end without their ends.
func runs(number int) []simplify.Run {
	draw := draws.From(101)
	var all []simplify.Run
	for k := range number {
		var r simplify.Run
		var at api.Rat
		place := plane.At(draw(9)-4, draw(9))
		for range 1 + draw(9) {
			r.Points = append(r.Points, movingpoint.Sample{T: at, P: place})
			step, _ := rational.FromInts(1+draw(6), 1+draw(3)*(k%2))
			at = rational.Add(at, step)
			dx, _ := rational.FromInts(draw(7)-3, 1+draw(2)*(k%3))
			place = plane.Add(place, api.Point{X: dx, Y: rational.FromInt((draw(5) - 2) * draw(2))})
		}
		last := len(r.Points) - 1
		r.In = api.Interval{From: real.FromRat(r.Points[0].T), To: real.FromRat(r.Points[last].T)}
		if last > 0 {
			r.In.OpenFrom, r.In.OpenTo = draw(4) == 0, draw(4) == 0
		}
		all = append(all, r)
	}
	return all
}

// distances are some that are permitted.
func distances() []api.Rat {
	return lists.Convert(strings.Fields("0 1/3 1/2 1 5/3 2 7/2 100"), rat)
}

// ways returns moving points with turns and jumps, whose intervals have rational ends: at the ends of a cell of time the function changes in one of several ways.
func ways(number int) [][]api.PointUnit {
	draw := draws.From(103)
	var all [][]api.PointUnit
	for range number {
		var l []api.PointUnit
		at, place := rational.FromInt(draw(5)-2), plane.At(0, 0)
		for range draw(9) {
			step, _ := rational.FromInts(1+draw(4), 1+draw(2))
			next := plane.Add(place, plane.At(draw(5)-2, draw(3)))
			end := rational.Add(at, step)
			part, _ := movingpoint.FromSamples([]movingpoint.Sample{{T: at, P: place}, {T: end, P: next}})
			part[0].In.OpenFrom = len(l) > 0 && !l[len(l)-1].In.OpenTo || draw(4) == 0
			part[0].In.OpenTo = draw(4) == 0
			if draw(9) == 0 {
				part, _ = movingpoint.FromSamples([]movingpoint.Sample{{T: end, P: place}})
			}
			l = append(l, part...)
			at, place = end, next
			switch draw(6) {
			case 0: // a jump
				place = plane.Add(place, plane.At(0, 5))
			case 1: // a gap
				at = rational.Add(at, rat("1/2"))
			}
		}
		normal, e := movingpoint.Normal(l)
		if e != api.OK {
			panic(showUnits(l))
		}
		all = append(all, normal)
	}
	return all
}
