package simplify_test

import (
	"slices"
	"testing"

	"viator/api"
	"viator/lifted"
	"viator/lists"
	"viator/movingnumber"
	"viator/movingpoint"
	"viator/notation"
	"viator/period"
	"viator/plane"
	"viator/rational"
	"viator/real"
	"viator/simplify"
)

// zigzag returns the closed run with a number of breakpoints whose second coordinate goes up and down.
func zigzag(number int) simplify.Run {
	r := simplify.Run{In: api.Interval{To: real.FromInt(number - 1)}}
	for k := range number {
		r.Points = append(r.Points, movingpoint.Sample{T: rational.FromInt(k), P: plane.At(k, k%2)})
	}
	return r
}

func TestP31_1Check(t *testing.T) {
	const root = "0+sqrt(2)"
	for s, want := range map[string]api.Errno{
		"": api.OK, "[0 2] 0,2 0; (2 4] 4 -6,3": api.OK, "[1/3 1/3] 1 2; (1 7/2) 3 4": api.OK, "[0 " + root + "] 0,1 0": api.ErrTime, "[" + root + " 3] 0,1 0": api.ErrTime, "[" + root + " " + root + "] 0,1 0": api.ErrTime, "[0 1] 0 0; [3 3+sqrt(1/2)) 1 1; [5 6] 0 0": api.ErrTime, "[0 1] 0 0; [5 6] 0 0; (7-sqrt(1/5) 8] 0 0": api.ErrTime,
		// Those of movingpoint.Check come first.
		"[0 " + root + "] 0,1 0; [1 2] 0 0": api.ErrOrder, "[" + root + " 0] 0,1 0": api.ErrEmpty, "[0 " + root + ") 0,1 0; [" + root + " 3] 0,1 0": api.ErrForm, "[2 4] 4 -6,3; [0 1] 0 0": api.ErrOrder, "[1 1] 0,1 0": api.ErrForm,
	} {
		if e := simplify.Check(units(s)); e != want {
			t.Errorf("Check(%s) = %d; want %d", s, e, want)
		}
		l, e := simplify.Runs(units(s))
		if e != want || e != api.OK && len(l) != 0 {
			t.Errorf("Runs(%s) = %s, %d; want %d", s, showRuns(l), e, want)
		}
		for _, d := range []string{"-1", "0", "1"} {
			if l, e := simplify.Simplify(units(s), rat(d)); want != api.OK && (e != want || len(l) != 0) {
				t.Errorf("Simplify(%s; %s) = %s, %d; want %d", s, d, showUnits(l), e, want)
			}
		}
	}
	for _, r := range notation.Wrong() {
		if e := simplify.Check([]api.PointUnit{{In: api.Interval{From: r, To: real.FromInt(99)}}}); e != api.ErrForm {
			t.Errorf("Check with %v = %d", r, e)
		}
	}
	if e := simplify.Check(make([]api.PointUnit, api.MaxUnits+1)); e != api.ErrLimit {
		t.Errorf("Check of many = %d", e)
	}
}

func TestP31_1RunsExamples(t *testing.T) {
	for _, c := range [][2]string{
		{"", ""}, {"[0 2] 0,2 0; (2 4] 4 -6,3", "[0 4] 0 0; 2 4; 4 4,6"}, {"[0 2) 0,2 0; (2 4] 4 -6,3", "[0 2) 0 0; 2 4 | (2 4] 2 4; 4 4,6"}, {"[0 2) 0,2 0; [2 2] 4 1; (2 4] 4 -6,3", "[0 2) 0 0; 2 4 | [2 2] 2 4,1 | (2 4] 2 4; 4 4,6"}, {"[3 3] 1 2", "[3 3] 3 1,2"}, {"(0 1/2) 3 0,4", "(0 1/2) 0 3; 1/2 3,2"}, {"[0 1] 0,1 0; (1 2] 1 0; (2 3) 3,-1 0", "[0 3) 0 0; 1 1; 2 1; 3 0"},
		// Jumps and gaps, with the ends before, behind, and between.
		{"[0 1] 0 0; (1 2] 5 5; [3 4] 5 5", "[0 1] 0 0; 1 0 | (1 2] 1 5,5; 2 5,5 | [3 4] 3 5,5; 4 5,5"}, {"[0 1) 0 0; [1 2) 5 5; [3 3] 5 5; (3 4) 5 6", "[0 1) 0 0; 1 0 | [1 2) 1 5,5; 2 5,5 | [3 3] 3 5,5 | (3 4) 3 5,6; 4 5,6"}, {"[0 0] 1 1; (0 2) 0,1 0; [2 2] 7 7", "[0 0] 0 1,1 | (0 2) 0 0; 2 2 | [2 2] 2 7,7"}, {"[0 1] 0,1 0; (1 2) 2,-1 0; (2 3] -2,1 0; (3 4] 4,-1 0", "[0 2) 0 0; 1 1; 2 0 | (2 4] 2 0; 3 1; 4 0"}, {"[0 1] 0,1 0; (1 2] 1 1", "[0 1] 0 0; 1 1 | (1 2] 1 1,1; 2 1,1"}, {"[0 1] 0,1 0; (1 2] 2 0", "[0 1] 0 0; 1 1 | (1 2] 1 2; 2 2"},
		// The same position at another time.
		{"[0 1] 0,1 0; [2 3] 3,-1 0", "[0 1] 0 0; 1 1 | [2 3] 2 1; 3 0"},
	} {
		got, e := simplify.Runs(units(c[0]))
		if showRuns(got) != c[1] || e != api.OK {
			t.Errorf("Runs(%s) = %s, %d; want %s", c[0], showRuns(got), e, c[1])
		}
	}
}

// rightRun tells by the words of the chapter whether a run is right.
func rightRun(r simplify.Run) bool {
	if period.CheckInterval(r.In) != api.OK || len(r.Points) < 1 || len(r.Points) > api.MaxUnits+1 {
		return false
	}
	for k, s := range r.Points {
		if rational.Check(s.T) != api.OK || plane.Check(s.P) != api.OK || k > 0 && rational.Compare(r.Points[k-1].T, s.T) >= 0 {
			return false
		}
	}
	return r.In.From == real.FromRat(r.Points[0].T) && r.In.To == real.FromRat(r.Points[len(r.Points)-1].T)
}

func TestP31_1Runs(t *testing.T) {
	turns, total, instants := 0, 0, 0
	for _, l := range ways(400) {
		got, e := simplify.Runs(l)
		if e != api.OK || simplify.Check(l) != api.OK {
			t.Fatalf("Runs(%s): %d", showUnits(l), e)
		}
		wrong := func() { t.Fatalf("Runs(%s) = %s", showUnits(l), showRuns(got)) }
		isTurn := func(m api.Real) bool { return slices.Contains(movingpoint.Turns(l), m) }
		rest := l
		for _, r := range got {
			// The units of the run: they end where the run does, and meet at turns.
			n := 1
			for n < len(rest) && rest[n-1].In.To == rest[n].In.From && isTurn(rest[n].In.From) {
				n++
			}
			part := rest[:n]
			rest = rest[n:]
			whole := api.Interval{From: part[0].In.From, OpenFrom: part[0].In.OpenFrom, To: part[n-1].In.To, OpenTo: part[n-1].In.OpenTo}
			if r.In != whole || !rightRun(r) {
				wrong()
			}
			times := lists.Convert(r.Points, func(s movingpoint.Sample) api.Real { return real.FromRat(s.T) })
			want := []api.Real{whole.From}
			for _, u := range part {
				want = append(want, u.In.To)
			}
			if !slices.Equal(times, slices.Compact(want)) {
				wrong()
			}
			for k, u := range part {
				for _, s := range r.Points[k:min(k+2, len(r.Points))] {
					x, y := rational.Add(u.F.X0, rational.Mul(u.F.X1, s.T)), rational.Add(u.F.Y0, rational.Mul(u.F.Y1, s.T))
					if s.P != (api.Point{X: x, Y: y}) {
						wrong()
					}
				}
			}
			turns += n - 1
			if whole.From == whole.To {
				instants++
			}
		}
		total += len(got)
		if len(rest) > 0 {
			wrong()
		}
	}
	if min(turns, total, instants) < 50 {
		t.Errorf("%d turns, %d runs, %d of them of one instant", turns, total, instants)
	}
}

func TestP31_2Examples(t *testing.T) {
	for _, c := range [][2]string{
		{"", ""}, {"[0 4] 0 0; 1 1,1; 2 2; 3 3,1; 4 4", "[0 1] 0,1 0,1; (1 2] 0,1 2,-1; (2 3] 0,1 -2,1; (3 4] 0,1 4,-1"}, {"[3 3] 3 1,2", "[3 3] 1 2"}, {"(0 1/2) 0 3; 1/2 3,2", "(0 1/2) 3 0,4"}, {"[0 2) 0 0; 1 1; 2 0", "[0 1] 0,1 0; (1 2) 2,-1 0"}, {"(0 2] 0 0; 1 1; 2 0", "(0 1] 0,1 0; (1 2] 2,-1 0"}, {"(0 3) 0 0; 1 1; 2 0; 3 1", "(0 1] 0,1 0; (1 2] 2,-1 0; (2 3) -2,1 0"},
		// In any order, and with what can be joined.
		{"[5 6] 5 1; 6 2 | [3 3] 3 1,2 | [0 1] 0 0; 1 0", "[0 1] 0 0; [3 3] 1 2; [5 6] -4,1 0"}, {"[0 2] 0 0; 1 1; 2 2", "[0 2] 0,1 0"}, {"[0 1) 0 0; 1 1 | [1 2] 1 1; 2 2", "[0 2] 0,1 0"}, {"[1 2] 1 1; 2 3 | [0 1) 0 0; 1 1", "[0 1] 0,1 0; (1 2] -1,2 0"}, {"[0 1) 0 0; 1 1 | [1 1] 1 1 | (1 2] 1 1; 2 2", "[0 2] 0,1 0"}, {"[0 1) 0 0; 1 1 | [1 1] 1 7 | (1 2] 1 1; 2 2", "[0 1) 0,1 0; [1 1] 7 0; (1 2] 0,1 0"}, {"[0 1) 0 0; 1 1 | (1 2] 1 1; 2 2", "[0 1) 0,1 0; (1 2] 0,1 0"},
	} {
		got, e := simplify.Build(runsOf(c[0]))
		if showUnits(got) != c[1] || e != api.OK {
			t.Errorf("Build(%s) = %s, %d; want %s", c[0], showUnits(got), e, c[1])
		}
	}
	for _, s := range []string{"[0 2] 0 0; 2 0 | [2 3] 2 0; 3 0", "[0 2] 0 0; 2 0 | [0 2] 0 0; 2 0", "[0 2] 0 0; 2 0 | [1 1] 1 0", "(0 2) 0 0; 2 0 | (1 3) 1 0; 3 0", "[2 3] 2 0; 3 0 | [3 3] 3 0 | [0 1] 0 0; 1 0", "[3 3] 3 0 | [3 3] 3 0", "[0 9] 0 0; 3 0; 6 1; 9 0 | (5 6] 5 0; 6 0"} {
		if got, e := simplify.Build(runsOf(s)); len(got) != 0 || e != api.ErrOverlap {
			t.Errorf("Build(%s) = %s, %d", s, showUnits(got), e)
		}
	}
}

func TestP31_2(t *testing.T) {
	for _, r := range runs(300) {
		got, e := simplify.Build([]simplify.Run{r})
		if e != api.OK || movingpoint.Check(got) != api.OK || !period.Equal(movingpoint.Domain(got), []api.Interval{r.In}) {
			t.Fatalf("Build(%s) = %s, %d", showRun(r), showUnits(got), e)
		}
		for k := range len(r.Points) - 1 {
			from, to := r.Points[k], r.Points[k+1]
			for _, part := range []string{"0", "1/9", "1/2", "7/8", "1"} {
				at := rational.Add(from.T, rational.Mul(rat(part), rational.Sub(to.T, from.T)))
				isOut := r.In.OpenFrom && real.FromRat(at) == r.In.From || r.In.OpenTo && real.FromRat(at) == r.In.To
				if p, defined := movingpoint.AtRat(got, at); defined == isOut || defined && p != straightAt(from, to, at) {
					t.Fatalf("Build(%s) = %s", showRun(r), showUnits(got))
				}
			}
		}
		if p, _ := movingpoint.AtRat(got, r.Points[0].T); len(r.Points) == 1 && p != r.Points[0].P {
			t.Errorf("Build(%s) = %s", showRun(r), showUnits(got))
		}
	}
}

// As many breakpoints as there can be: one more than units.
func TestP31_2Limit(t *testing.T) {
	r := zigzag(api.MaxUnits + 1)
	l, e := simplify.Build([]simplify.Run{r})
	if len(l) != api.MaxUnits || e != api.OK || simplify.Check(l) != api.OK {
		t.Fatalf("Build: %d units, and the error %d", len(l), e)
	}
	got, e := simplify.Runs(l)
	if e != api.OK || len(got) != 1 || showRun(got[0]) != showRun(r) {
		t.Errorf("Runs = %s, %d", showRuns(got), e)
	}
	for d, want := range map[string]int{"0": 256, "1/3": 256, "1": 1} {
		if l, e := simplify.Simplify(l, rat(d)); len(l) != want || e != api.OK {
			t.Errorf("Simplify(%s): %d units, and the error %d", d, len(l), e)
		}
	}
	// Together, runs can have more units.
	later := zigzag(api.MaxUnits + 1)
	later.In.From, later.In.To = real.FromInt(1000), real.FromInt(1256)
	for k := range later.Points {
		later.Points[k].T = rational.FromInt(1000 + k)
	}
	if l, e := simplify.Build([]simplify.Run{later, r}); len(l) != 2*api.MaxUnits || e != api.OK {
		t.Errorf("Build: %d units, and the error %d", len(l), e)
	}
}

func TestP31_6(t *testing.T) {
	for _, c := range [][3]string{
		{"[0 4) 0 0; 1 1,1; 2 2; 3 3,1; 4 4", "\x00\x04", "[0 4) 0 0; 4 4"}, {"(0 4] 0 0; 1 1,1; 2 2; 3 3,1; 4 4", "\x00\x01\x03\x04", "(0 4] 0 0; 1 1,1; 3 3,1; 4 4"}, {"[3 3] 3 1,2", "\x00", "[3 3] 3 1,2"}, {"[0 1/2] 0 7; 1/2 7", "\x00\x01", "[0 1/2] 0 7; 1/2 7"},
	} {
		got, e := simplify.Keep(runOf(c[0]), lists.Convert([]byte(c[1]), func(b byte) int { return int(b) }))
		if showRun(got) != c[2] || e != api.OK {
			t.Errorf("Keep(%s; %v) = %s, %d; want %s", c[0], []byte(c[1]), showRun(got), e, c[2])
		}
	}
	for _, r := range runs(60) {
		for _, kept := range choices(r) {
			got, e := simplify.Keep(r, kept)
			if e != api.OK || got.In != r.In || len(got.Points) != len(kept) {
				t.Fatalf("Keep(%s; %v) = %s, %d", showRun(r), kept, showRun(got), e)
			}
			for k, s := range got.Points {
				if s != r.Points[kept[k]] {
					t.Fatalf("Keep(%s; %v) = %s", showRun(r), kept, showRun(got))
				}
			}
		}
	}
}

func TestP31_7Examples(t *testing.T) {
	for _, c := range [][3]string{
		{"", "1", ""}, {"[0 1] 0,1 0,1; (1 2] 0,1 2,-1; (2 3] 0,1 -2,1; (3 4] 0,1 4,-1", "1", "[0 4] 0,1 0"}, {"[0 1] 0,1 0,1; (1 2] 0,1 2,-1; (2 3] 0,1 -2,1; (3 4] 0,1 4,-1", "2/3", "[0 1] 0,1 0,1; (1 4] 0,1 4/3,-1/3"}, {"[0 1] 0,1 0,1; (1 2] 0,1 2,-1; (2 3] 0,1 -2,1; (3 4] 0,1 4,-1", "1/2", "[0 1] 0,1 0,1; (1 2] 0,1 2,-1; (2 3] 0,1 -2,1; (3 4] 0,1 4,-1"},
		// Each run by itself: jumps and gaps stay.
		{"[0 1] 0,1 0; (1 2] 2,-1 0; (2 3] 5 5; (3 4) 2,1 5; [6 6] 0 0; [7 8] 0 0", "9", "[0 2] 0 0; (2 4) 4,1/2 5; [6 6] 0 0; [7 8] 0 0"}, {"(0 1] 0,1 0; (1 2) 2,-1 0; [2 2] 1 0; (2 3) 0 0", "1", "(0 2) 0 0; [2 2] 1 0; (2 3) 0 0"}, {"[0 2) 0,1 0; (2 3] 0,1 0", "7", "[0 2) 0,1 0; (2 3] 0,1 0"}, {"[5/2 5/2] 1 1", "7", "[5/2 5/2] 1 1"},
	} {
		got, e := simplify.Simplify(units(c[0]), rat(c[1]))
		if showUnits(got) != c[2] || e != api.OK {
			t.Errorf("Simplify(%s; %s) = %s, %d; want %s", c[0], c[1], showUnits(got), e, c[2])
		}
	}
	for _, s := range []string{"", "[0 1] 0 0"} {
		if got, e := simplify.Simplify(units(s), rat("-1/1000000000000")); len(got) != 0 || e != api.ErrRange {
			t.Errorf("Simplify(%s) = %s, %d", s, showUnits(got), e)
		}
	}
}

func TestP31_7(t *testing.T) {
	left := 0
	for _, l := range ways(200) {
		all, _ := simplify.Runs(l)
		for _, d := range distances() {
			var simple []simplify.Run
			for _, r := range all {
				kept := best(r, d)
				left += len(r.Points) - len(kept)
				simple = append(simple, simplify.Run{In: r.In, Points: lists.Convert(kept, func(k int) movingpoint.Sample { return r.Points[k] })})
			}
			want, _ := simplify.Build(simple)
			if got, e := simplify.Simplify(l, d); showUnits(got) != showUnits(want) || e != api.OK {
				t.Errorf("Simplify(%s; %s) = %s, %d; want %s", showUnits(l), rational.Print(d), showUnits(got), e, showUnits(want))
			}
		}
	}
	if left < 500 {
		t.Errorf("%d breakpoints are left out", left)
	}
}

func TestP31_8(t *testing.T) {
	for _, l := range ways(300) {
		all, _ := simplify.Runs(l)
		if again, e := simplify.Build(all); !movingpoint.Same(again, l) || e != api.OK {
			t.Errorf("Build(Runs(%s)) = %s, %d", showUnits(l), showUnits(again), e)
		}
		for _, d := range distances() {
			got, _ := simplify.Simplify(l, d)
			if !period.Equal(movingpoint.Domain(got), movingpoint.Domain(l)) || len(got) > len(l) || simplify.Check(got) != api.OK {
				t.Errorf("Simplify(%s; %s) = %s", showUnits(l), rational.Print(d), showUnits(got))
			}
			if d == (api.Rat{}) && !movingpoint.Same(got, l) {
				t.Errorf("Simplify(%s; 0) = %s", showUnits(l), showUnits(got))
			}
			limit := movingnumber.Constant(rational.Mul(d, d), movingpoint.Domain(l))
			if far := movingnumber.Less(limit, lifted.Distance2(l, got)).True; len(far) > 0 {
				t.Errorf("Simplify(%s; %s) = %s is too far during %s", showUnits(l), rational.Print(d), showUnits(got), notation.ShowPeriod(far))
			}
		}
	}
}

// Results share no memory with arguments, and arguments do not change.
func TestP31_8Arguments(t *testing.T) {
	const s, way = "[0 4) 0 0; 1 1,1; 2 2; 3 3,1; 4 4", "[0 1] 0,1 0,1; (1 2] 0,1 2,-1; (2 3] 0,1 -2,1; (3 4] 0,1 4,-1"
	r, l := runOf(s), units(way)
	kept := []int{0, 2, 4}
	simplify.Error2(r, kept)
	simplify.Deviation2(r, 0, 4)
	simplify.Greedy(r, rat("1"))
	simplify.Kept(r, rat("1"))
	k, _ := simplify.Keep(r, kept)
	clear(k.Points[:cap(k.Points)])
	all, _ := simplify.Keep(r, []int{0, 1, 2, 3, 4})
	clear(all.Points[:cap(all.Points)])
	built, _ := simplify.Build([]simplify.Run{r})
	clear(built[:cap(built)])
	got, _ := simplify.Runs(l)
	clear(got[0].Points[:cap(got[0].Points)])
	same, _ := simplify.Simplify(l, api.Rat{})
	clear(same[:cap(same)])
	if showRun(r) != s || showUnits(l) != way || !slices.Equal(kept, []int{0, 2, 4}) {
		t.Errorf("the arguments became %s, %s and %v", showRun(r), showUnits(l), kept)
	}
}

// Nothing is specified for runs that are not right; but nothing panics, and everything ends.
func TestInvalid(t *testing.T) {
	wrong := []simplify.Run{{}, {In: notation.Interval("[0 4]")}, runOf("[0 4] 2 3"), runOf("(4 0) 0 0; 1 1; 1 7; 0 3; 4 9"), runOf("(1 1) 1 1"), runOf("[0-sqrt(2) 0+sqrt(2)] 0 0; 1 1"), runOf("[0 9] 5 0; 5 0; 5 0")}
	for _, x := range notation.Wrong() {
		p := movingpoint.Sample{T: x.P, P: api.Point{X: x.P, Y: x.P}}
		wrong = append(wrong, simplify.Run{In: api.Interval{From: x, To: x}, Points: []movingpoint.Sample{p}}, simplify.Run{In: api.Interval{To: x}, Points: []movingpoint.Sample{p, p, {}, p}})
	}
	for k, r := range wrong {
		simplify.Build(wrong[k:])
		simplify.Build([]simplify.Run{r})
		for _, d := range distances() {
			simplify.Kept(r, d)
			simplify.Greedy(r, d)
		}
		for _, x := range notation.Wrong() {
			simplify.Kept(r, x.P)
			simplify.Greedy(r, x.P)
			simplify.Simplify(units("[0 1] 0,1 0; (1 2] 1 0"), x.P)
		}
		for from := -1; from < 6; from++ {
			for to := -1; to < 6; to++ {
				simplify.Deviation2(r, from, to)
				simplify.Error2(r, []int{from, to})
				simplify.Keep(r, []int{from, to})
				simplify.Keep(r, []int{0, from, to})
			}
		}
	}
}
