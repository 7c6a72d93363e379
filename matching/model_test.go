package matching_test

import (
	"slices"
	"strconv"
	"strings"

	"viator/api"
	"viator/candidate"
	"viator/draws"
	"viator/lists"
	"viator/matching"
	"viator/network"
	"viator/notation"
	"viator/rational"
	"viator/shortest"
	"viator/towns"
)

// The strings of the tests are those of package notation.
var (
	rat       = notation.Rat
	town      = notation.Network
	showTown  = notation.ShowNetwork
	place     = notation.Place
	showPlace = notation.ShowPlace
)

// fixes returns fixes at the points between the spaces of a string, at the times 0, 1 and so on.
func fixes(s string) []matching.Fix {
	var l []matching.Fix
	for k, word := range strings.Fields(s) {
		l = append(l, matching.Fix{T: rational.FromInt(k), P: notation.Point(word)})
	}
	return l
}

// rules returns the rules of a string with the radius, the weight and the number of candidates.
func rules(s string) matching.Rules {
	words := strings.Fields(s)
	most, _ := strconv.Atoi(words[2])
	return matching.Rules{Radius: rat(words[0]), Weight: rat(words[1]), Most: most}
}

// question is a list of fixes that is matched with a network; all are the candidates of each fix, and ways the lengths of the ways between them.
type question struct {
	n    api.Network
	l    []matching.Fix
	r    matching.Rules
	all  [][]candidate.Candidate
	ways map[[2]api.Place]api.Rat
}

func (q question) String() string {
	points := lists.Convert(q.l, func(f matching.Fix) string { return notation.ShowPair(f.P.X, f.P.Y) })
	return showTown(q.n) + "; " + strings.Join(points, " ") + "; " + rational.Print(q.r.Radius) + " " + rational.Print(q.r.Weight) + " " + strconv.Itoa(q.r.Most)
}

// questions returns fixes and rules for the networks of package towns.
func questions() []question {
	points := strings.Fields("0,0 1,0 1/2,1/2 0,1 2,0 1,1 3/2,1 2,1 1/3,-1 5,5 0,4 3,2")
	ways := []string{"2 1 3", "1 1/2 2", "3 0 3", "1 3 4", "2 1/3 1", "5 2 3", "0 1 2", "3/2 1/4 5"}
	draw := draws.From(1)
	var all []question
	for _, n := range towns.Networks() {
		for k := range 24 {
			var words []string
			for range 1 + draw(4) {
				words = append(words, points[draw(len(points))])
			}
			all = append(all, ask(n, fixes(strings.Join(words, " ")), rules(ways[k%len(ways)])))
		}
	}
	return all
}

// ask returns a question, with its candidates and ways by the words of the chapters.
func ask(n api.Network, l []matching.Fix, r matching.Rules) question {
	q := question{n: n, l: l, r: r, ways: map[[2]api.Place]api.Rat{}}
	for fix, f := range l {
		list := candidate.Scan(n, f.P, r.Radius)
		if len(list) > r.Most {
			list = list[:r.Most]
		}
		q.all = append(q.all, list)
		for _, to := range list {
			for _, from := range q.all[max(fix-1, 0)] {
				if way, e := shortest.Between(n, from.Place, to.Place); e == api.OK {
					q.ways[[2]api.Place{from.Place, to.Place}] = way.Length
				}
			}
		}
	}
	return q
}

// step returns the length of the way from a candidate of the fix before to a candidate, if there is one.
func (q question) step(fix, before, k int) (api.Rat, bool) {
	length, found := q.ways[[2]api.Place{q.all[fix-1][before].Place, q.all[fix][k].Place}]
	return length, found
}

// choice is a list of candidates for the fixes from a first one on, and what it costs.
type choice struct {
	list []int
	cost api.Rat
}

// connected returns all connected choices for the fixes from first to last, in lexicographic order.
func (q question) connected(first, last int) []choice {
	var found []choice
	var extend func(c choice)
	extend = func(c choice) {
		fix := first + len(c.list)
		if fix > last {
			found = append(found, choice{slices.Clone(c.list), c.cost})
			return
		}
		for k, x := range q.all[fix] {
			cost := rational.Add(c.cost, rational.Mul(q.r.Weight, x.Distance2))
			if len(c.list) > 0 {
				way, found := q.step(fix, c.list[len(c.list)-1], k)
				if !found {
					continue
				}
				cost = rational.Add(cost, way)
			}
			extend(choice{append(slices.Clone(c.list), k), cost})
		}
	}
	extend(choice{})
	return found
}

// cheapest returns the first one of the choices that cost least, and how many these are.
func cheapest(l []choice) (best choice, count int) {
	for _, c := range l {
		order := rational.Compare(c.cost, best.cost)
		if count == 0 || order < 0 {
			best, count = c, 0
		}
		if best.cost == c.cost {
			count++
		}
	}
	return best, count
}

// gap tells whether a fix has no candidates.
func (q question) gap() bool {
	return slices.ContainsFunc(q.all, func(l []candidate.Candidate) bool { return len(l) == 0 })
}

// potentials returns the potentials of all candidates.
func (q question) potentials() [][]matching.Potential {
	var all [][]matching.Potential
	for fix, list := range q.all {
		layer := make([]matching.Potential, len(list))
		choices := q.connected(0, fix)
		for k := range layer {
			ending := slices.DeleteFunc(slices.Clone(choices), func(c choice) bool { return c.list[fix] != k })
			best, count := cheapest(ending)
			layer[k] = matching.Potential{Reached: count > 0, Value: best.cost}
		}
		all = append(all, layer)
	}
	return all
}

// parts returns the parts of the fixes.
func (q question) parts() [][2]int {
	var all [][2]int
	begin := 0
	for begin < len(q.l) {
		end := begin
		for end < len(q.l) && len(q.connected(begin, end)) > 0 {
			end++
		}
		if end == begin {
			begin++
			continue
		}
		all = append(all, [2]int{begin, end})
		begin = end
	}
	return all
}

// proves tells whether potentials prove a match.
func (q question) proves(m matching.Match, p [][]matching.Potential) bool {
	if len(p) != len(q.all) {
		return false
	}
	for fix, list := range q.all {
		if len(p[fix]) != len(list) {
			return false
		}
		for k, x := range list {
			if rational.Check(p[fix][k].Value) != api.OK {
				return false
			}
			emission := rational.Mul(q.r.Weight, x.Distance2)
			if fix == 0 {
				if !p[0][k].Reached || rational.Compare(p[0][k].Value, emission) > 0 {
					return false
				}
				continue
			}
			var sums []api.Rat // by way of the candidates before that are reached
			for j, before := range p[fix-1] {
				if way, found := q.step(fix, j, k); found && before.Reached {
					sums = append(sums, rational.Add(rational.Add(before.Value, way), emission))
				}
			}
			if p[fix][k].Reached != (len(sums) > 0) || len(sums) == 0 && p[fix][k].Value != (api.Rat{}) {
				return false
			}
			for _, sum := range sums {
				if rational.Compare(p[fix][k].Value, sum) > 0 {
					return false
				}
			}
		}
	}
	right := slices.ContainsFunc(q.connected(0, len(q.l)-1), func(c choice) bool { return slices.Equal(c.list, m.Choice) && c.cost == m.Cost })
	cheaper := slices.ContainsFunc(p[len(p)-1], func(x matching.Potential) bool {
		return x.Reached && rational.Compare(x.Value, m.Cost) < 0
	})
	return right && !cheaper
}

// showMatch returns a string like "[0 1] 7/2".
func showMatch(m matching.Match) string {
	return "[" + strings.Join(lists.Convert(m.Choice, strconv.Itoa), " ") + "] " + rational.Print(m.Cost)
}

// showPotentials returns a string like "1 3/2 | 6 -0", where a dash stands before the value of a candidate that is not reached.
func showPotentials(p [][]matching.Potential) string {
	show := func(x matching.Potential) string {
		if !x.Reached {
			return "-" + rational.Print(x.Value)
		}
		return rational.Print(x.Value)
	}
	return strings.Join(lists.Convert(p, func(layer []matching.Potential) string {
		return strings.Join(lists.Convert(layer, show), " ")
	}), " | ")
}

// everyPair calls a function with the networks of package towns, and two of their positions.
func everyPair(f func(n api.Network, p, q api.Place)) {
	for _, n := range towns.Networks() {
		if network.Check(n) != api.OK {
			panic(showTown(n))
		}
		for _, p := range towns.Places(n) {
			for _, q := range towns.Places(n) {
				f(n, p, q)
			}
		}
	}
}
