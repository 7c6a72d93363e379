package simplify_test

import (
	"math"
	"slices"
	"testing"

	"viator/api"
	"viator/lifted"
	"viator/movingnumber"
	"viator/movingpoint"
	"viator/plane"
	"viator/rational"
	"viator/real"
	"viator/simplify"
)

func TestP31_3DeviationExamples(t *testing.T) {
	const waves = "0,0 1,1 2,0 3,1 4,0"
	for _, c := range []struct {
		run      string
		from, to int
		want     string
		e        api.Errno
	}{
		{waves, 0, 4, "1", api.OK}, {waves, 0, 1, "0", api.OK}, {waves, 3, 4, "0", api.OK}, {waves, 1, 4, "4/9", api.OK}, {waves, 0, 3, "4/9", api.OK}, {waves, 1, 3, "1", api.OK}, {waves, 0, 2, "1", api.OK}, {"0 1 4", 0, 2, "1", api.OK}, {"0 1 2 3", 0, 3, "0", api.OK}, {"0 0,3 4,3 0", 0, 3, "25", api.OK}, {"5,1/2 5 5 5,1/2", 0, 3, "1/4", api.OK}, {"9 0 9,1 -3,7", 1, 3, "233/2", api.OK},
		// The position is compared at the same time, and on both sides.
		{"0 4 4 4", 0, 3, "64/9", api.OK}, {"0 0 0 4", 0, 3, "64/9", api.OK}, {"0 0,-1 0", 0, 2, "1", api.OK}, {"0 -1 0", 0, 2, "1", api.OK},
		// A single breakpoint.
		{"3,4", 0, 0, "0", api.OK}, {"3,4", 0, 1, "0", api.ErrRange}, {"3,4", -1, 0, "0", api.ErrRange}, {"3,4", 1, 1, "0", api.ErrRange}, {"3,4", -1, -1, "0", api.ErrRange},
		{waves, 0, 0, "0", api.ErrRange}, {waves, 2, 2, "0", api.ErrRange}, {waves, 4, 4, "0", api.ErrRange}, {waves, 2, 1, "0", api.ErrRange}, {waves, 4, 0, "0", api.ErrRange}, {waves, 0, 5, "0", api.ErrRange}, {waves, 4, 5, "0", api.ErrRange}, {waves, 5, 6, "0", api.ErrRange}, {waves, -1, 0, "0", api.ErrRange}, {waves, -1, 4, "0", api.ErrRange}, {waves, -2, -1, "0", api.ErrRange}, {waves, 0, math.MaxInt, "0", api.ErrRange}, {waves, math.MinInt, 0, "0", api.ErrRange}, {waves, math.MaxInt, math.MinInt, "0", api.ErrRange},
	} {
		if got, e := simplify.Deviation2(through(c.run), c.from, c.to); got != rat(c.want) || e != c.e {
			t.Errorf("Deviation2(%s; %d, %d) = %s, %d; want %s, %d", c.run, c.from, c.to, rational.Print(got), e, c.want, c.e)
		}
	}
}

// The deviation is the greatest squared distance at any instant.
func TestP31_3Deviation(t *testing.T) {
	count := 0
	for _, r := range runs(150) {
		way, _ := simplify.Build([]simplify.Run{{In: api.Interval{From: r.In.From, To: r.In.To}, Points: r.Points}})
		for to := range r.Points {
			for from := range to {
				straight, _ := movingpoint.FromSamples([]movingpoint.Sample{r.Points[from], r.Points[to]})
				want, _ := movingnumber.Greatest(lifted.Distance2(way, straight))
				got, e := simplify.Deviation2(r, from, to)
				if real.FromRat(got) != want.Value || got != deviation(r, from, to) || e != api.OK {
					t.Errorf("Deviation2(%s; %d, %d) = %s, %d; want %s", showRun(r), from, to, rational.Print(got), e, real.Print(want.Value))
				}
				if got != (api.Rat{}) {
					count++
				}
			}
		}
	}
	if count < 500 {
		t.Errorf("%d ways deviate", count)
	}
}

func TestP31_3ErrorExamples(t *testing.T) {
	const waves = "0,0 1,1 2,0 3,1 4,0"
	for _, c := range []struct {
		run  string
		kept []int
		want string
		e    api.Errno
	}{
		{waves, []int{0, 2, 4}, "1", api.OK}, {waves, []int{0, 1, 4}, "4/9", api.OK}, {waves, []int{0, 3, 4}, "4/9", api.OK}, {waves, []int{0, 1, 2, 3, 4}, "0", api.OK}, {waves, []int{0, 4}, "1", api.OK}, {"3,4", []int{0}, "0", api.OK}, {"3,4 5", []int{0, 1}, "0", api.OK}, {"0 9 0 1 0", []int{0, 2, 4}, "81", api.OK}, {"0 1 0 9 0", []int{0, 2, 4}, "81", api.OK},
		{waves, nil, "0", api.ErrForm}, {waves, []int{0}, "0", api.ErrForm}, {waves, []int{4}, "0", api.ErrForm}, {waves, []int{0, 2}, "0", api.ErrForm}, {waves, []int{1, 4}, "0", api.ErrForm}, {waves, []int{0, 2, 2, 4}, "0", api.ErrForm}, {waves, []int{0, 3, 2, 4}, "0", api.ErrForm}, {waves, []int{0, 0, 4}, "0", api.ErrForm}, {waves, []int{0, 4, 4}, "0", api.ErrForm}, {waves, []int{0, 5}, "0", api.ErrForm}, {waves, []int{0, 5, 4}, "0", api.ErrForm}, {waves, []int{0, -1, 4}, "0", api.ErrForm}, {waves, []int{-1, 4}, "0", api.ErrForm}, {waves, []int{4, 0}, "0", api.ErrForm}, {"3,4", nil, "0", api.ErrForm}, {"3,4", []int{0, 0}, "0", api.ErrForm}, {"3,4", []int{1}, "0", api.ErrForm}, {"3,4", []int{0, 1}, "0", api.ErrForm}, {"3,4 5", []int{0}, "0", api.ErrForm},
	} {
		r := through(c.run)
		if got, e := simplify.Error2(r, c.kept); got != rat(c.want) || e != c.e {
			t.Errorf("Error2(%s; %v) = %s, %d; want %s, %d", c.run, c.kept, rational.Print(got), e, c.want, c.e)
		}
		if k, e := simplify.Keep(r, c.kept); e != c.e || e != api.OK && (k.In != api.Interval{} || len(k.Points) > 0) {
			t.Errorf("Keep(%s; %v) = %s, %d; want %d", c.run, c.kept, showRun(k), e, c.e)
		}
	}
}

func TestP31_3Error(t *testing.T) {
	for _, r := range runs(80) {
		for _, kept := range choices(r) {
			if got, e := simplify.Error2(r, kept); got != errorOf(r, kept) || e != api.OK {
				t.Errorf("Error2(%s; %v) = %s, %d", showRun(r), kept, rational.Print(got), e)
			}
		}
	}
}

func TestP31_4Examples(t *testing.T) {
	const waves = "0,0 1,1 2,0 3,1 4,0"
	for _, c := range []struct {
		run, distance string
		kept, greedy  []int
	}{
		{waves, "1", []int{0, 4}, []int{0, 4}}, {waves, "1/2", []int{0, 1, 2, 3, 4}, []int{0, 1, 2, 3, 4}}, {waves, "2/3", []int{0, 1, 4}, []int{0, 3, 4}}, {waves, "0", []int{0, 1, 2, 3, 4}, []int{0, 1, 2, 3, 4}}, {waves, "665/1000", []int{0, 1, 2, 3, 4}, []int{0, 1, 2, 3, 4}}, {waves, "1000000000000000000000", []int{0, 4}, []int{0, 4}}, {"3,4", "0", []int{0}, []int{0}}, {"3,4", "5", []int{0}, []int{0}}, {"3,4 5", "0", []int{0, 1}, []int{0, 1}}, {"3,4 5", "9", []int{0, 1}, []int{0, 1}},
		// On one line, with the same speed and with others.
		{"0 1 2 3", "0", []int{0, 3}, []int{0, 3}}, {"0 1 4", "1", []int{0, 2}, []int{0, 2}}, {"0 1 4", "99/100", []int{0, 1, 2}, []int{0, 1, 2}},
		// The farthest one is not always the best, and the way to a nearer one need not be enough.
		{"0 0 5 0 0 5 0", "4", []int{0, 2, 6}, []int{0, 5, 6}}, {"0 3 0 3 0 0 0", "5/2", []int{0, 1, 6}, []int{0, 3, 6}}, {"3 4 4 0 3 0", "2", []int{0, 1, 5}, []int{0, 2, 3, 4, 5}}, {"0 9 0 9 0", "9", []int{0, 4}, []int{0, 4}},
	} {
		r := through(c.run)
		wantKept, wantGreedy := best(r, rat(c.distance)), greedy(r, rat(c.distance))
		if got, e := simplify.Kept(r, rat(c.distance)); !slices.Equal(got, wantKept) || e != api.OK {
			t.Errorf("Kept(%s; %s) = %v, %d; want %v", c.run, c.distance, got, e, wantKept)
		}
		if got, e := simplify.Greedy(r, rat(c.distance)); !slices.Equal(got, wantGreedy) || e != api.OK {
			t.Errorf("Greedy(%s; %s) = %v, %d; want %v", c.run, c.distance, got, e, wantGreedy)
		}
		if !slices.Equal(wantKept, c.kept) || !slices.Equal(wantGreedy, c.greedy) {
			t.Errorf("%s; %s: %v and %v", c.run, c.distance, wantKept, wantGreedy)
		}
	}
	for _, run := range []string{waves, "3,4"} {
		for _, d := range []string{"-1", "-1/1000000000000", "-4"} {
			if got, e := simplify.Kept(through(run), rat(d)); len(got) != 0 || e != api.ErrRange {
				t.Errorf("Kept(%s; %s) = %v, %d", run, d, got, e)
			}
			if got, e := simplify.Greedy(through(run), rat(d)); len(got) != 0 || e != api.ErrRange {
				t.Errorf("Greedy(%s; %s) = %v, %d", run, d, got, e)
			}
		}
	}
}

func TestP31_4(t *testing.T) {
	better, ties := 0, 0
	for _, r := range runs(300) {
		for _, d := range distances() {
			want := best(r, d)
			kept, e := simplify.Kept(r, d)
			if !slices.Equal(kept, want) || e != api.OK {
				t.Errorf("Kept(%s; %s) = %v, %d; want %v", showRun(r), rational.Print(d), kept, e, want)
			}
			farthest := greedy(r, d)
			got, e := simplify.Greedy(r, d)
			if !slices.Equal(got, farthest) || e != api.OK {
				t.Errorf("Greedy(%s; %s) = %v, %d; want %v", showRun(r), rational.Print(d), got, e, farthest)
			}
			switch {
			case len(want) < len(farthest):
				better++
			case !slices.Equal(want, farthest):
				ties++
			}
		}
	}
	if better < 15 || ties < 200 {
		t.Errorf("the best breakpoints are fewer than the greedy ones %d times, and others %d times", better, ties)
	}
}

// As many breakpoints as there can be.
func TestP31_4Limit(t *testing.T) {
	r := zigzag(api.MaxUnits + 1)
	for d, want := range map[string]int{"0": 257, "1/3": 257, "1": 2} {
		for _, f := range []func(r simplify.Run, distance api.Rat) ([]int, api.Errno){simplify.Kept, simplify.Greedy} {
			if got, e := f(r, rat(d)); len(got) != want || e != api.OK || got[want-1] != 256 {
				t.Errorf("%s: %v, %d; want %d of them", d, got, e, want)
			}
		}
	}
	if d, e := simplify.Deviation2(r, 0, 256); d != rat("1") || e != api.OK {
		t.Errorf("Deviation2 = %s, %d", rational.Print(d), e)
	}
}

// A greater distance never needs more breakpoints, and no list that is enough is shorter.
func TestP31_8Distances(t *testing.T) {
	for _, r := range runs(200) {
		most := len(r.Points)
		for _, d := range distances() {
			kept, _ := simplify.Kept(r, d)
			far, _ := simplify.Greedy(r, d)
			if len(kept) > most || len(kept) > len(far) || !enough(r, kept, d) || !enough(r, far, d) {
				t.Errorf("Kept(%s; %s) = %v, and Greedy = %v", showRun(r), rational.Print(d), kept, far)
			}
			most = len(kept)
		}
	}
}

// Moving a run in space or time changes nothing of which breakpoints are kept.
func TestP31_8Moved(t *testing.T) {
	for _, r := range runs(100) {
		by, later := plane.At(-77, 1000), rat("-1234567/89")
		moved := simplify.Run{In: api.Interval{From: real.Shift(r.In.From, later), To: real.Shift(r.In.To, later)}}
		for _, s := range r.Points {
			moved.Points = append(moved.Points, movingpoint.Sample{T: rational.Add(s.T, later), P: plane.Add(s.P, by)})
		}
		for _, d := range distances() {
			kept, _ := simplify.Kept(r, d)
			far, _ := simplify.Greedy(r, d)
			kept2, _ := simplify.Kept(moved, d)
			far2, _ := simplify.Greedy(moved, d)
			if !slices.Equal(kept, kept2) || !slices.Equal(far, far2) {
				t.Errorf("%s; %s: %v and %v became %v and %v", showRun(r), rational.Print(d), kept, far, kept2, far2)
			}
		}
	}
}
