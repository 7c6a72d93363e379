package matching_test

import (
	"slices"
	"testing"

	"viator/api"
	"viator/matching"
	"viator/rational"
)

func TestP23_4Examples(t *testing.T) {
	const (
		parallel = "1 0 0, 2 4 0, 3 0 2, 4 4 2 | 5 1-2 4, 6 3-4 4, 7 1-3 2, 8 2-4 2"
		twins    = "1 0 0, 2 4 0 | 3 1-2 4, 4 1-2 4, 5 2-1 4"
		apart    = "1 0 0, 2 4 0, 3 0 1, 4 4 1 | 1 1-2 4, 2 3-4 4"
	)
	for _, c := range []struct {
		n, l, r, want string
		e             api.Errno
	}{
		{street, "2,1 6,1", "2 1 4", "[0 0] 6", api.OK}, {street, "2,1 6,1", "2 3 4", "[0 0] 10", api.OK}, {oneWay, "2,1 6,1", "2 1 4", "[0 0] 6", api.OK}, {street, "6,1 2,1", "2 1 4", "[0 0] 6", api.OK}, {street, "3,1", "2 5 1", "[0] 5", api.OK}, {street, "3,1 3,1 3,1", "2 5 1", "[0 0 0] 15", api.OK},
		{oneWay, "6,1 2,1", "2 1 4", "[] 0", api.ErrUnreachable}, {street, "2,9", "2 1 4", "[] 0", api.ErrNotFound}, {street, "2,1 2,9 2,1", "2 1 4", "[] 0", api.ErrNotFound}, {oneWay, "6,1 2,1 2,9", "2 1 4", "[] 0", api.ErrNotFound}, {"|", "2,1", "2 1 4", "[] 0", api.ErrNotFound}, {oneWay, "2,1 6,1 2,1 6,1", "2 1 4", "[] 0", api.ErrUnreachable},
		// The nearest road is not always the best one: it depends on the weight of the distances.
		{parallel, "1,0 2,6/5 3,0", "3 1 4", "[0 1 0] 86/25", api.OK}, {parallel, "1,0 2,6/5 3,0", "3 9 4", "[0 1 0] 374/25", api.OK}, {parallel, "1,0 2,6/5 3,0", "3 10 4", "[0 0 0] 82/5", api.OK}, {parallel, "1,0 2,6/5 3,0", "3 11 4", "[0 0 0] 426/25", api.OK}, {parallel, "1,0 2,6/5 3,0", "1 1 4", "[0 0 0] 266/25", api.OK}, {apart, "1,0 2,3/5 3,0", "2 1 4", "[0 1 0] 59/25", api.OK}, {apart, "1,0 2,3/5 3,0", "2 0 4", "[0 1 0] 2", api.OK}, {apart, "1,1 2,2/5 3,1", "2 100 4", "[0 1 0] 38", api.OK},
		// Of several choices that cost the same, the first one.
		{twins, "2,0 3,0", "1 1 4", "[0 0] 1", api.OK}, {twins, "2,0 3,0 1,0", "1 1 4", "[0 0 0] 3", api.OK}, {twins, "0,0 4,0", "1 1 4", "[0 0] 4", api.OK},
	} {
		m, e := matching.Find(town(c.n), fixes(c.l), rules(c.r))
		if e != c.e || showMatch(m) != c.want {
			t.Errorf("%s; %s; %s: Find = %s, %d; want %s, %d", c.n, c.l, c.r, showMatch(m), e, c.want, c.e)
		}
	}
}

func TestP23_4(t *testing.T) {
	gaps, unreachable, ties, later := 0, 0, 0, 0
	for _, q := range questions() {
		m, e := matching.Find(q.n, q.l, q.r)
		best, count := cheapest(q.connected(0, len(q.l)-1))
		want := api.OK
		switch {
		case q.gap():
			want = api.ErrNotFound
			gaps++
		case count == 0:
			want = api.ErrUnreachable
			unreachable++
		case count > 1:
			ties++
		}
		if slices.Max(append(best.list, 0)) > 0 {
			later++
		}
		if e != want || !slices.Equal(m.Choice, best.list) || m.Cost != best.cost {
			t.Errorf("%v: Find = %s, %d; want %v, %d", q, showMatch(m), e, best, want)
		}
	}
	if gaps < 100 || unreachable < 15 || ties < 50 || later < 50 {
		t.Errorf("%d questions with fixes without candidates, %d without connected choices, %d with equal ones, %d with a candidate that is not the nearest one", gaps, unreachable, ties, later)
	}
}

// No connected choice costs less than that of Find.
func TestP23_8Least(t *testing.T) {
	for _, q := range questions() {
		m, e := matching.Find(q.n, q.l, q.r)
		for _, c := range q.connected(0, len(q.l)-1) {
			if e != api.OK || rational.Compare(c.cost, m.Cost) < 0 {
				t.Errorf("%v: Find = %s, %d, and %v costs %v", q, showMatch(m), e, c.list, c.cost)
			}
		}
	}
}

func TestP23_5Potentials(t *testing.T) {
	for _, c := range []struct {
		n, l, want string
		e          api.Errno
	}{
		{street, "2,1 6,1", "1 | 6", api.OK}, {oneWay, "2,1 6,1", "1 | 6", api.OK}, {oneWay, "6,1 2,1", "1 | -0", api.OK}, {oneWay, "6,1 2,1 3,1", "1 | -0 | -0", api.OK}, {street, "2,1", "1", api.OK}, {street, "2,9", "", api.ErrNotFound}, {street, "2,1 3,9", "", api.ErrNotFound}, {oneWay, "6,1 2,1 2,9", "", api.ErrNotFound}, {"1 0 0, 2 4 0, 3 4 4 | 5 1>2 4, 6 3>2 4", "3,1 4,3 3,1", "1 1 | -0 | -0 -0", api.OK}, {"1 0 0, 2 4 0, 3 4 4 | 5 1>2 4, 6 3>2 4", "4,3 3,1 4,0", "0 | -0 3 | 4", api.OK},
	} {
		if p, e := matching.Potentials(town(c.n), fixes(c.l), rules("2 1 4")); e != c.e || showPotentials(p) != c.want {
			t.Errorf("%s; %s: Potentials = %s, %d; want %s", c.n, c.l, showPotentials(p), e, c.want)
		}
	}
	for _, q := range questions() {
		p, e := matching.Potentials(q.n, q.l, q.r)
		if q.gap() {
			if e != api.ErrNotFound || p != nil {
				t.Errorf("%v: Potentials = %s, %d", q, showPotentials(p), e)
			}
			continue
		}
		if want := q.potentials(); e != api.OK || !slices.EqualFunc(p, want, slices.Equal) {
			t.Errorf("%v: Potentials = %s, %d; want %s", q, showPotentials(p), e, showPotentials(want))
		}
	}
}

// What Find and Potentials return is accepted; what is changed is accepted only if it proves what it says.
func TestP23_5Certify(t *testing.T) {
	accepted, rejected := 0, 0
	for _, q := range questions() {
		m, e := matching.Find(q.n, q.l, q.r)
		p, f := matching.Potentials(q.n, q.l, q.r)
		if e != api.OK || f != api.OK {
			if e := matching.Certify(q.n, q.l, q.r, m, p); e != api.ErrCertificate {
				t.Errorf("%v: Certify = %d", q, e)
			}
			continue
		}
		if e := matching.Certify(q.n, q.l, q.r, m, p); e != api.OK {
			t.Errorf("%v: Certify = %d", q, e)
		}
		check := func(m matching.Match, p [][]matching.Potential) {
			t.Helper()
			e := matching.Certify(q.n, q.l, q.r, m, p)
			if e != api.OK && e != api.ErrCertificate || (e == api.OK) != q.proves(m, p) {
				t.Errorf("%v: Certify(%s; %s) = %d", q, showMatch(m), showPotentials(p), e)
			}
			if e == api.OK {
				accepted++
			} else {
				rejected++
			}
		}
		for _, c := range q.connected(0, len(q.l)-1) {
			check(matching.Match{Choice: c.list, Cost: c.cost}, p)
			check(matching.Match{Choice: c.list, Cost: m.Cost}, p)
		}
		eachChange(p, func(changed [][]matching.Potential) { check(m, changed) })
	}
	if accepted < 1000 || rejected < 1000 {
		t.Errorf("%d certificates are accepted, %d are rejected", accepted, rejected)
	}
}

// eachChange calls a function with potentials of which one thing is changed.
func eachChange(p [][]matching.Potential, f func(changed [][]matching.Potential)) {
	third := rat("1/3")
	for _, change := range []func(x *matching.Potential){
		func(x *matching.Potential) { x.Value = rational.Add(x.Value, third) }, func(x *matching.Potential) { x.Value = rational.Sub(x.Value, third) }, func(x *matching.Potential) { x.Value = rat("-1000000") }, func(x *matching.Potential) { x.Value = api.Rat{} }, func(x *matching.Potential) { x.Reached = !x.Reached }, func(x *matching.Potential) { *x = matching.Potential{} }, func(x *matching.Potential) { x.Value = wrong()[0] },
	} {
		for fix := range p {
			for k := range p[fix] {
				changed := copied(p)
				change(&changed[fix][k])
				f(changed)
			}
		}
	}
	for fix := range p {
		shorter, longer := copied(p), copied(p)
		shorter[fix] = shorter[fix][1:]
		longer[fix] = append(longer[fix], matching.Potential{})
		f(shorter)
		f(longer)
	}
	f(p[1:])
	f(append(copied(p), nil))
	f(nil)
}

// copied returns a copy of potentials.
func copied(p [][]matching.Potential) [][]matching.Potential {
	var all [][]matching.Potential
	for _, layer := range p {
		all = append(all, slices.Clone(layer))
	}
	return all
}

func TestP23_5Errors(t *testing.T) {
	n, l, r := town(street), fixes("2,1 6,1"), rules("2 1 4")
	one := func(values ...string) [][]matching.Potential {
		var p [][]matching.Potential
		for _, s := range values {
			p = append(p, []matching.Potential{{Reached: true, Value: rat(s)}})
		}
		return p
	}
	for _, c := range []struct {
		m matching.Match
		p [][]matching.Potential
		e api.Errno
	}{
		{matching.Match{Choice: []int{0, 0}, Cost: rat("6")}, one("1", "6"), api.OK}, {matching.Match{Choice: []int{0, 0}, Cost: rat("6")}, one("1", "7"), api.ErrCertificate}, {matching.Match{Choice: []int{0, 0}, Cost: rat("6")}, one("1", "5"), api.ErrCertificate}, {matching.Match{Choice: []int{0, 0}, Cost: rat("6")}, one("2", "6"), api.ErrCertificate}, {matching.Match{Choice: []int{0, 0}, Cost: rat("6")}, one("0", "6"), api.ErrCertificate}, {matching.Match{Choice: []int{0, 0}, Cost: rat("6")}, one("0", "5"), api.ErrCertificate},
		{matching.Match{Choice: []int{0, 0}, Cost: rat("7")}, one("1", "6"), api.ErrCertificate}, {matching.Match{Choice: []int{0, 0}, Cost: rat("5")}, one("1", "6"), api.ErrCertificate}, {matching.Match{Choice: []int{0}, Cost: rat("6")}, one("1", "6"), api.ErrCertificate}, {matching.Match{Choice: []int{0, 1}, Cost: rat("6")}, one("1", "6"), api.ErrCertificate}, {matching.Match{Choice: []int{0, -1}, Cost: rat("6")}, one("1", "6"), api.ErrCertificate}, {matching.Match{}, nil, api.ErrCertificate}, {matching.Match{Choice: []int{0, 0}, Cost: api.Rat{Num: rat("6").Num, Den: rat("1").Num}}, one("1", "6"), api.ErrCertificate},
	} {
		if e := matching.Certify(n, l, r, c.m, c.p); e != c.e {
			t.Errorf("Certify(%s; %s) = %d; want %d", showMatch(c.m), showPotentials(c.p), e, c.e)
		}
	}
	// Without a candidate for some fix, nothing is proved.
	if e := matching.Certify(n, fixes("2,1 6,9"), r, matching.Match{Choice: []int{0, 0}, Cost: rat("1")}, [][]matching.Potential{{{Reached: true, Value: rat("1")}}, nil}); e != api.ErrCertificate {
		t.Errorf("Certify = %d", e)
	}
}

func TestP23_7Examples(t *testing.T) {
	for _, c := range []struct {
		n, l string
		want [][2]int
	}{
		{street, "2,1 6,1", [][2]int{{0, 2}}}, {street, "6,1 2,1", [][2]int{{0, 2}}}, {street, "2,1 50,50 6,1", [][2]int{{0, 1}, {2, 3}}}, {street, "50,50", nil}, {street, "50,50 2,1 50,50 50,50 3,1 4,1 50,50", [][2]int{{1, 2}, {4, 6}}}, {oneWay, "6,1 2,1", [][2]int{{0, 1}, {1, 2}}}, {oneWay, "1,1 2,1 1,1 2,1 9,0 8,0", [][2]int{{0, 2}, {2, 5}, {5, 6}}}, {street, "2,1", [][2]int{{0, 1}}}, {"|", "2,1 3,1", nil},
		// The candidate that is the only one in the first part need not be that of the second part.
		{"1 0 0, 2 4 0, 3 4 4 | 5 1>2 4, 6 3>2 4", "1,0 3,1 4,3 3,1", [][2]int{{0, 2}, {2, 4}}},
	} {
		if parts, e := matching.Parts(town(c.n), fixes(c.l), rules("2 1 4")); e != api.OK || !slices.Equal(parts, c.want) {
			t.Errorf("%s; %s: Parts = %v, %d; want %v", c.n, c.l, parts, e, c.want)
		}
	}
}

func TestP23_7(t *testing.T) {
	several := 0
	for _, q := range questions() {
		parts, e := matching.Parts(q.n, q.l, q.r)
		if want := q.parts(); e != api.OK || !slices.Equal(parts, want) {
			t.Errorf("%v: Parts = %v, %d; want %v", q, parts, e, want)
		}
		if len(parts) > 1 {
			several++
		}
	}
	if several < 100 {
		t.Errorf("%d lists have several parts", several)
	}
}

// The parts do not overlap, they contain every fix with candidates, and there is a best choice for each.
func TestP23_8Parts(t *testing.T) {
	for _, q := range questions() {
		parts, _ := matching.Parts(q.n, q.l, q.r)
		covered := make([]int, len(q.l))
		for _, part := range parts {
			if _, e := matching.Find(q.n, q.l[part[0]:part[1]], q.r); e != api.OK {
				t.Errorf("%v: Find for the part %v: %d", q, part, e)
			}
			for fix := part[0]; fix < part[1]; fix++ {
				covered[fix]++
			}
		}
		for fix, l := range q.all {
			if covered[fix] > 1 || len(l) > 0 != (covered[fix] == 1) {
				t.Errorf("%v: the parts are %v", q, parts)
			}
		}
	}
}
