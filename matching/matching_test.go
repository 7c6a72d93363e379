package matching_test

import (
	"math"
	"slices"
	"testing"

	"viator/api"
	"viator/candidate"
	"viator/lists"
	"viator/matching"
	"viator/network"
	"viator/notation"
	"viator/plane"
	"viator/rational"
	"viator/shortest"
	"viator/towns"
)

// street is the network of the example, and oneWay the same with a road that is OneWay.
const (
	street = "1 0 0, 2 10 0 | 1 1-2 10"
	oneWay = "1 0 0, 2 10 0 | 1 1>2 10"
)

// wrong returns fractions that are not canonical.
func wrong() []api.Rat {
	var list []api.Rat
	for _, x := range notation.Wrong() {
		if rational.Check(x.P) != api.OK {
			list = append(list, x.P)
		}
	}
	return list
}

func TestP23_1(t *testing.T) {
	right := fixes("2,1 6,1 1/2,-3")
	many := make([]matching.Fix, matching.MaxFixes)
	for k := range many {
		many[k].T = rational.FromInt(k - 40)
	}
	at := func(times ...string) []matching.Fix {
		return lists.Convert(times, func(s string) matching.Fix { return matching.Fix{T: rat(s), P: plane.At(1, 2)} })
	}
	for k, c := range []struct {
		l []matching.Fix
		r string
		e api.Errno
	}{
		{right, "2 1 4", api.OK}, {right[:1], "0 0 1", api.OK}, {right, "1/3 1/5 16", api.OK}, {right, "100000000000000000000 7 3", api.OK}, {many, "2 1 4", api.OK}, {at("-3", "-5/2", "0", "1/7"), "2 1 4", api.OK},
		{nil, "2 1 4", api.ErrEmpty}, {nil, "-2 1 44", api.ErrEmpty}, {append(many, matching.Fix{T: rat("500")}), "2 1 4", api.ErrLimit}, {make([]matching.Fix, 65), "-2 1 4", api.ErrLimit},
		{right, "-1 1 4", api.ErrRange}, {right, "-1/1000000 1 4", api.ErrRange}, {right, "2 -1 4", api.ErrRange}, {right, "2 1 0", api.ErrRange}, {right, "2 1 -1", api.ErrRange}, {right, "2 1 17", api.ErrRange}, {right, "2 1 9223372036854775807", api.ErrRange}, {make([]matching.Fix, 2), "2 1 17", api.ErrRange},
		{make([]matching.Fix, 2), "2 1 4", api.ErrOrder}, {at("1", "2", "2"), "2 1 4", api.ErrOrder}, {at("1", "2", "3/2"), "2 1 4", api.ErrOrder}, {at("1", "0", "3"), "2 1 4", api.ErrOrder}, {at("0", "2", "1", "5"), "2 1 4", api.ErrOrder},
	} {
		if e := matching.Check(c.l, rules(c.r)); e != c.e {
			t.Errorf("%d: Check = %d; want %d", k, e, c.e)
		}
	}
}

func TestP23_1Form(t *testing.T) {
	for _, x := range wrong() {
		for k := range 3 {
			for _, change := range []func(f *matching.Fix){func(f *matching.Fix) { f.T = x }, func(f *matching.Fix) { f.P.X = x }, func(f *matching.Fix) { f.P.Y = x }} {
				l := fixes("0,0 1,1 2,2")
				change(&l[k])
				for _, s := range []string{"2 1 4", "-2 1 0"} {
					if e := matching.Check(l, rules(s)); e != api.ErrForm {
						t.Errorf("Check(%v) = %d", l, e)
					}
				}
			}
		}
		for _, l := range [][]matching.Fix{fixes("0,0 1,1"), make([]matching.Fix, 3)} {
			for _, r := range []matching.Rules{{Radius: x, Most: 1}, {Weight: x, Most: 1}, {Radius: x, Weight: rat("-1")}, {Radius: rat("-1"), Weight: x, Most: 1}} {
				if e := matching.Check(l, r); e != api.ErrForm {
					t.Errorf("Check with the rules %v = %d", r, e)
				}
			}
		}
		if e := matching.Check(make([]matching.Fix, 65), matching.Rules{Radius: x}); e != api.ErrLimit {
			t.Errorf("Check of too many fixes = %d", e)
		}
	}
}

// Each function returns the error of Check first.
func TestP23_1First(t *testing.T) {
	n := town(street)
	for _, c := range []struct {
		l []matching.Fix
		r string
		e api.Errno
	}{{nil, "2 1 4", api.ErrEmpty}, {make([]matching.Fix, 65), "2 1 4", api.ErrLimit}, {fixes("90,0 0,90"), "2 1 17", api.ErrRange}, {[]matching.Fix{{}, {}}, "2 1 4", api.ErrOrder}, {[]matching.Fix{{T: wrong()[0]}}, "2 1 4", api.ErrForm}} {
		r := rules(c.r)
		all, e := matching.Candidates(n, c.l, r)
		cost, f := matching.Cost(n, c.l, r, []int{9, 9, 9})
		if e != c.e || f != c.e || all != nil || cost != (api.Rat{}) {
			t.Errorf("Candidates: %d, Cost: %d; want %d", e, f, c.e)
		}
		m, e := matching.Find(n, c.l, r)
		p, f := matching.Potentials(n, c.l, r)
		if e != c.e || f != c.e || p != nil || m.Choice != nil || m.Cost != (api.Rat{}) {
			t.Errorf("Find: %d, Potentials: %d; want %d", e, f, c.e)
		}
		ways, e := matching.Ways(n, c.l, r, matching.Match{Choice: []int{9}})
		parts, f := matching.Parts(n, c.l, r)
		if e != c.e || f != c.e || ways != nil || parts != nil {
			t.Errorf("Ways: %d, Parts: %d; want %d", e, f, c.e)
		}
		if e := matching.Certify(n, c.l, r, matching.Match{}, nil); e != c.e {
			t.Errorf("Certify: %d; want %d", e, c.e)
		}
	}
}

func TestP23_2Candidates(t *testing.T) {
	for _, q := range questions() {
		got, e := matching.Candidates(q.n, q.l, q.r)
		if want := q.all; e != api.OK || !slices.EqualFunc(got, want, slices.Equal) {
			t.Errorf("%v: Candidates = %v, %d; want %v", q, got, e, want)
		}
	}
	got, e := matching.Candidates(town(street), fixes("2,1 6,9 6,1"), rules("2 1 4"))
	if e != api.OK || len(got) != 3 || len(got[0]) != 1 || len(got[1]) != 0 || len(got[2]) != 1 || got[2][0] != (candidate.Candidate{Place: place("1@6"), Distance2: rat("1")}) {
		t.Errorf("Candidates = %v, %d", got, e)
	}
}

func TestP23_2Emission(t *testing.T) {
	for _, c := range []struct{ distance2, weight, want string }{{"1", "1", "1"}, {"1", "3", "3"}, {"5/4", "2/3", "5/6"}, {"7", "0", "0"}, {"0", "9", "0"}} {
		x := candidate.Candidate{Place: place("1@2"), Distance2: rat(c.distance2)}
		if got := matching.Emission(x, matching.Rules{Radius: rat("77"), Weight: rat(c.weight), Most: 5}); got != rat(c.want) {
			t.Errorf("Emission(%v) = %v", c, got)
		}
	}
}

func TestP23_2Transition(t *testing.T) {
	everyPair(func(n api.Network, p, q api.Place) {
		w, e := shortest.Between(n, p, q)
		if length, found := matching.Transition(n, p, q); found != (e == api.OK) || length != w.Length {
			t.Errorf("%s: Transition(%s, %s) = %v, %v; want %v, %d", showTown(n), showPlace(p), showPlace(q), length, found, w.Length, e)
		}
	})
	n := town(oneWay)
	invalid := []api.Place{place("2@0"), place("1@-1"), place("1@11"), place("1@101/10"), place("0@0"), {Road: 1, Offset: wrong()[0]}, {Road: 1, Offset: wrong()[1]}}
	for _, p := range invalid {
		for _, q := range append(invalid, place("1@0"), place("1@10"), place("1@3")) {
			for _, ends := range [][2]api.Place{{p, q}, {q, p}} {
				if length, found := matching.Transition(n, ends[0], ends[1]); found || length != (api.Rat{}) {
					t.Errorf("Transition(%v) = %v, %v", ends, length, found)
				}
			}
		}
	}
	if length, found := matching.Transition(n, place("1@2"), place("1@9/2")); !found || length != rat("5/2") {
		t.Errorf("Transition = %v, %v", length, found)
	}
	if length, found := matching.Transition(n, place("1@9/2"), place("1@2")); found || length != (api.Rat{}) {
		t.Errorf("Transition = %v, %v", length, found)
	}
}

func TestP23_3(t *testing.T) {
	for _, q := range questions() {
		connected := q.connected(0, len(q.l)-1)
		for _, c := range connected {
			if cost, e := matching.Cost(q.n, q.l, q.r, c.list); e != api.OK || cost != c.cost {
				t.Errorf("%v: Cost(%v) = %v, %d; want %v", q, c.list, cost, e, c.cost)
			}
		}
		// Two lists that may be connected, or not.
		for _, k := range []int{0, 1} {
			list := lists.Convert(q.all, func(l []candidate.Candidate) int { return min(k, len(l)-1) })
			want := api.OK
			if slices.Contains(list, -1) {
				want = api.ErrRange
			} else if !slices.ContainsFunc(connected, func(c choice) bool { return slices.Equal(c.list, list) }) {
				want = api.ErrUnreachable
			}
			if cost, e := matching.Cost(q.n, q.l, q.r, list); e != want || e != api.OK && cost != (api.Rat{}) {
				t.Errorf("%v: Cost(%v) = %v, %d; want %d", q, list, cost, e, want)
			}
		}
	}
}

func TestP23_3Errors(t *testing.T) {
	const corner = "1 0 0, 2 4 0, 3 4 4 | 5 1>2 4, 6 3>2 4"
	for _, c := range []struct {
		n, l, r string
		choice  []int
		want    string
		e       api.Errno
	}{
		{street, "2,1 6,1", "2 1 4", []int{0, 0}, "6", api.OK}, {street, "2,1 6,1", "2 3 4", []int{0, 0}, "10", api.OK}, {street, "2,1", "2 3 4", []int{0}, "3", api.OK}, {street, "6,1 2,1/2", "2 1 4", []int{0, 0}, "21/4", api.OK},
		{street, "2,1 6,1", "2 1 4", nil, "0", api.ErrForm}, {street, "2,1 6,1", "2 1 4", []int{0}, "0", api.ErrForm}, {street, "2,1 6,1", "2 1 4", []int{0, 0, 0}, "0", api.ErrForm}, {street, "2,1 6,1", "2 1 4", []int{5, 5, 5}, "0", api.ErrForm},
		{street, "2,1 6,1", "2 1 4", []int{0, 1}, "0", api.ErrRange}, {street, "2,1 6,1", "2 1 4", []int{1, 0}, "0", api.ErrRange}, {street, "2,1 6,1", "2 1 4", []int{-1, 0}, "0", api.ErrRange}, {street, "2,1 6,1", "2 1 4", []int{0, math.MinInt}, "0", api.ErrRange}, {street, "2,9 6,1", "2 1 4", []int{0, 0}, "0", api.ErrRange}, {street, "2,1 6,9", "2 1 4", []int{0, 0}, "0", api.ErrRange},
		{oneWay, "6,1 2,1", "2 1 4", []int{0, 0}, "0", api.ErrUnreachable}, {oneWay, "2,1 6,1", "2 1 4", []int{0, 0}, "6", api.OK}, {oneWay, "6,1 2,1 6,1", "2 1 4", []int{0, 0, 1}, "0", api.ErrRange},
		{corner, "3,1 3,1", "2 1 1", []int{0, 0}, "2", api.OK}, {corner, "3,1 3,1", "2 1 2", []int{1, 0}, "0", api.ErrUnreachable}, {corner, "3,1 3,1", "2 1 2", []int{1, 1}, "2", api.OK}, {corner, "3,1 3,1", "2 1 1", []int{1, 1}, "0", api.ErrRange}, {corner, "3,1 3,1 3,1", "2 1 2", []int{0, 0, 1}, "0", api.ErrUnreachable}, {corner, "3,1 3,1 4,0", "2 1 2", []int{0, 0, 0}, "3", api.OK},
	} {
		if got, e := matching.Cost(town(c.n), fixes(c.l), rules(c.r), c.choice); e != c.e || got != rat(c.want) {
			t.Errorf("%s; %s; %s: Cost(%v) = %s, %d; want %s, %d", c.n, c.l, c.r, c.choice, rational.Print(got), e, c.want, c.e)
		}
	}
}

func TestP23_6(t *testing.T) {
	for _, q := range questions() {
		for k, c := range q.connected(0, len(q.l)-1) {
			if k > 9 {
				break
			}
			ways, e := matching.Ways(q.n, q.l, q.r, matching.Match{Choice: c.list, Cost: rat("-77")})
			if e != api.OK || len(ways) != len(q.l)-1 {
				t.Fatalf("%v: Ways(%v) = %v, %d", q, c.list, ways, e)
			}
			for fix, w := range ways {
				want, _ := shortest.Between(q.n, q.all[fix][c.list[fix]].Place, q.all[fix+1][c.list[fix+1]].Place)
				if w.From != want.From || w.To != want.To || w.Length != want.Length || !slices.Equal(w.Legs, want.Legs) {
					t.Errorf("%v: Ways(%v) = %v; want %v", q, c.list, w, want)
				}
			}
		}
	}
}

func TestP23_6Errors(t *testing.T) {
	for _, c := range []struct {
		n, l   string
		choice []int
		e      api.Errno
	}{{street, "2,1 6,1", []int{0}, api.ErrForm}, {street, "2,1 6,1", nil, api.ErrForm}, {street, "2,1 6,1", []int{0, 1}, api.ErrRange}, {street, "2,1 6,9", []int{0, 0}, api.ErrRange}, {oneWay, "6,1 2,1", []int{0, 0}, api.ErrUnreachable}, {oneWay, "2,1 6,1 2,1", []int{0, 0, 0}, api.ErrUnreachable}} {
		if ways, e := matching.Ways(town(c.n), fixes(c.l), rules("2 1 4"), matching.Match{Choice: c.choice}); e != c.e || ways != nil {
			t.Errorf("%s; %s: Ways(%v) = %v, %d; want %d", c.n, c.l, c.choice, ways, e, c.e)
		}
	}
}

// The cost of a match is that of its emissions and the lengths of its ways.
func TestP12(t *testing.T) {
	for _, q := range questions() {
		m, e := matching.Find(q.n, q.l, q.r)
		if e != api.OK {
			continue
		}
		ways, e := matching.Ways(q.n, q.l, q.r, m)
		sum := api.Rat{}
		for fix, k := range m.Choice {
			sum = rational.Add(sum, matching.Emission(q.all[fix][k], q.r))
		}
		for _, w := range ways {
			sum = rational.Add(sum, w.Length)
			if e := shortest.CheckWay(q.n, w); e != api.OK {
				t.Errorf("%v: CheckWay(%v) = %d", q, w, e)
			}
		}
		if e != api.OK || sum != m.Cost {
			t.Errorf("%v: %s: the ways are %v, %d", q, showMatch(m), ways, e)
		}
		p, _ := matching.Potentials(q.n, q.l, q.r)
		if e := matching.Certify(q.n, q.l, q.r, m, p); e != api.OK {
			t.Errorf("%v: Certify(%s) = %d", q, showMatch(m), e)
		}
	}
}

// A network with 36 nodes, and as many fixes with as many candidates as permitted.
func TestP12Large(t *testing.T) {
	var n api.Network
	for k := range 36 {
		n.Nodes = append(n.Nodes, api.Node{Id: k + 1, X: k % 6 * 4, Y: k / 6 * 4})
	}
	for k := range 36 {
		if k%6 < 5 {
			n.Roads = append(n.Roads, api.Road{Id: 2*k + 1, From: k + 1, To: k + 2, Length: 4 + k%3, Limit: 1, OneWay: k%4 == 0})
		}
		if k < 30 {
			n.Roads = append(n.Roads, api.Road{Id: 2*k + 2, From: k + 7, To: k + 1, Length: 4 + k%2, Limit: 1, OneWay: k%5 == 0})
		}
	}
	var l []matching.Fix
	for k := range matching.MaxFixes {
		l = append(l, matching.Fix{T: rational.FromInt(k), P: plane.At(k*7%21, k*k%23)})
	}
	r := rules("9 1/2 16")
	m, e := matching.Find(n, l, r)
	if network.Check(n) != api.OK || e != api.OK || len(m.Choice) != len(l) {
		t.Fatalf("Find = %s, %d", showMatch(m), e)
	}
	p, _ := matching.Potentials(n, l, r)
	if e := matching.Certify(n, l, r, m, p); e != api.OK {
		t.Errorf("Certify = %d", e)
	}
	if parts, _ := matching.Parts(n, l, r); !slices.Equal(parts, [][2]int{{0, 64}}) {
		t.Errorf("Parts = %v", parts)
	}
	// No other candidate of a single fix is better.
	for fix := 0; fix < len(l); fix += 9 {
		other := slices.Clone(m.Choice)
		for k := range matching.MaxMost {
			other[fix] = k
			cost, e := matching.Cost(n, l, r, other)
			if e == api.OK && (rational.Compare(cost, m.Cost) < 0 || cost == m.Cost && slices.Compare(other, m.Choice) < 0) {
				t.Errorf("the fix %d: %v costs %v, and %v costs %v", fix, other, cost, m.Choice, m.Cost)
			}
		}
	}
}

func TestContractArguments(t *testing.T) {
	n, l, r := town(street), fixes("2,1 6,1 9,0"), rules("2 1 4")
	choice := []int{0, 0, 0}
	p, _ := matching.Potentials(n, l, r)
	m, _ := matching.Find(n, l, r)
	before := showMatch(m) + showPotentials(p)
	matching.Cost(n, l, r, choice)
	matching.Certify(n, l, r, m, p)
	matching.Ways(n, l, r, m)
	matching.Parts(n, l, r)
	if showTown(n) != street || showMatch(m)+showPotentials(p) != before || !slices.Equal(choice, []int{0, 0, 0}) || !slices.Equal(l, fixes("2,1 6,1 9,0")) {
		t.Errorf("arguments: %s, %s, %s, %v, %v", showTown(n), showMatch(m), showPotentials(p), choice, l)
	}
}

// Nothing is specified for networks that are not valid; but nothing panics, and everything ends.
func TestInvalid(t *testing.T) {
	for _, n := range []api.Network{
		town("1 0 0 | 5 1-2 8, 5 2>1 -3"), town("1 0 0, 3 1 0 | 7 3-3 0, 2 0-0 1, 3 1-3 5"), town("1 0 0, 1 5 5, 2 0 4 | 1 2-1 1, 1 1-2 9223372036854775807, 4 2-1 -9223372036854775808"),
	} {
		l, r := fixes("0,0 1,1 0,0"), rules("9 1 16")
		m, _ := matching.Find(n, l, r)
		p, _ := matching.Potentials(n, l, r)
		matching.Certify(n, l, r, m, p)
		matching.Certify(n, l, r, matching.Match{Choice: []int{0, 0, 0}}, p)
		matching.Ways(n, l, r, m)
		matching.Ways(n, l, r, matching.Match{Choice: []int{0, 0, 0}})
		matching.Parts(n, l, r)
		for _, p := range towns.Places(town(street)) {
			matching.Transition(n, p, api.Place{Road: 5, Offset: p.Offset})
		}
	}
}
