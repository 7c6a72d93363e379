package reconstruct_test

import (
	"math"
	"slices"
	"strconv"
	"strings"
	"testing"

	"viator/api"
	"viator/draws"
	"viator/intake"
	"viator/movingnumber"
	"viator/movingpoint"
	"viator/notation"
	"viator/plane"
	"viator/rational"
	"viator/reconstruct"
)

// says returns what the functions say of an intake.
func says(x *intake.Intake, s api.Settings) string {
	objects, _ := reconstruct.Objects(x, s)
	parts := showObjects(objects)
	for id := range 5 {
		l, _ := reconstruct.Reports(x, id)
		chain, _ := reconstruct.KeptOf(x, id, s)
		u, _ := reconstruct.Trajectory(x, id, s)
		gaps, e := reconstruct.Gaps(x, id, s)
		parts = append(parts, showTimed(l), showTimed(chain), showUnits(u), notation.ShowPeriod(gaps), strconv.Itoa(int(e)))
	}
	for _, r := range x.Reports() {
		becomes, e := reconstruct.Explain(x, r, s)
		parts = append(parts, strconv.Itoa(becomes), strconv.Itoa(int(e)))
	}
	return strings.Join(parts, "\n")
}

// The order in which reports and exchanges arrive, in which batches, and how often.
func TestP28_7Order(t *testing.T) {
	draw := draws.From(37)
	for k, b := range arrivals() {
		s := settings[k%len(settings)]
		want := says(from(t, b), s)
		for range 2 {
			x := intake.New()
			waiting := append(slices.Clone(b.Reports), b.Reports[:len(b.Reports)/2]...)
			x.Add(api.Batch{Exchanges: b.Exchanges[:draw(len(b.Exchanges)+1)]})
			for len(waiting) > 0 {
				j := draw(len(waiting))
				x.Add(api.Batch{Reports: waiting[j:min(j+draw(3), len(waiting))]})
				x.Add(api.Batch{Reports: waiting[j : j+1]})
				waiting = slices.Delete(waiting, j, j+1)
			}
			x.Add(api.Batch{Exchanges: b.Exchanges})
			if got := says(x, s); got != want {
				t.Errorf("another order of %s leads to %s; want %s", notation.ShowBatch(b), got, want)
			}
		}
	}
}

func TestP28_7Trajectory(t *testing.T) {
	moves := 0
	each(t, func(x *intake.Intake, object int, s api.Settings) {
		u, _ := reconstruct.Trajectory(x, object, s)
		chain, _ := reconstruct.KeptOf(x, object, s)
		for _, r := range chain {
			if p, found := movingpoint.AtRat(u, r.T); !found || p != plane.At(r.Report.X, r.Report.Y) {
				t.Errorf("the trajectory of %s is %s", showTimed(chain), showUnits(u))
			}
		}
		speed2 := movingpoint.Speed2(u)
		moves += len(speed2)
		limit2 := rational.FromInt(s.MaxSpeed * s.MaxSpeed)
		if fast := movingnumber.When(speed2, rational.Add(limit2, rat("1/1000000000")), rational.FromInt(math.MaxInt)); len(fast) > 0 {
			t.Errorf("%s is faster than %d during %s", showUnits(u), s.MaxSpeed, notation.ShowPeriod(fast))
		}
	})
	if moves < 300 {
		t.Errorf("%d parts of trajectories", moves)
	}
}

// No chain is longer, and none of the same length comes before.
func TestP28_7Longest(t *testing.T) {
	each(t, func(x *intake.Intake, object int, s api.Settings) {
		l, _ := reconstruct.Reports(x, object)
		got := reconstruct.Chain(l, s)
		for k := range len(got) - 1 {
			if !reconstruct.Compatible(l[got[k]], l[got[k+1]], s) {
				t.Errorf("Chain(%s) = %v", showTimed(l), got)
			}
		}
		if want := chain(t, l, s); len(got) < len(want) {
			t.Errorf("Chain(%s) = %v; there is %v", showTimed(l), got, want)
		}
	})
}

// Reports of other objects.
func TestP28_7Others(t *testing.T) {
	all := arrivals()
	for k, b := range all {
		s := settings[k%len(settings)]
		for id := 1; id <= 3; id++ {
			x := from(t, b)
			want, _ := reconstruct.Trajectory(x, id, s)
			other := slices.DeleteFunc(slices.Clone(all[(k+7)%len(all)].Reports), func(r api.Report) bool { return r.Object == id })
			x.Add(api.Batch{Reports: other})
			if got, _ := reconstruct.Trajectory(x, id, s); showUnits(got) != showUnits(want) {
				t.Errorf("the trajectory becomes %s; want %s", showUnits(got), showUnits(want))
			}
		}
	}
}

// Results share no memory with arguments, and arguments do not change.
func TestP28_7Arguments(t *testing.T) {
	s := api.Settings{MaxSpeed: 2, MaxGap: 5}
	x := from(t, batch("1.0, 1.1 t1 x9, 1.2 t2 x4, 1.3 t9 x4, 1.4 d2, 1.5 c, 2.0 t3"+clocks))
	before, want := x.Clone(), says(x, s)
	l, _ := reconstruct.Reports(x, 1)
	chain, _ := reconstruct.KeptOf(x, 1, s)
	u, _ := reconstruct.Trajectory(x, 1, s)
	gaps, _ := reconstruct.Gaps(x, 1, s)
	d, _ := reconstruct.Database(x, s, nil)
	clear(l[:cap(l)])
	clear(chain)
	clear(u)
	clear(gaps)
	clear(d.Objects[0].Units)
	clear(d.Objects)
	if !x.Equal(before) || says(x, s) != want {
		t.Errorf("%s became %s", want, says(x, s))
	}
	list := timed("0 1.0, 2 1.2 x4, 9 1.3 x4")
	clear(reconstruct.Chain(list[:2], s))
	clear(reconstruct.Through(list[:2], s))
	if got := showTimed(list); got != "0 1.0, 2 1.2 x4, 9 1.3 x4" {
		t.Errorf("the list became %s", got)
	}
}

func TestP28Nil(t *testing.T) {
	s := settings[0]
	if l, e := reconstruct.Reports(nil, 1); len(l) != 0 || e != api.ErrArgument {
		t.Errorf("Reports = %v, %d", l, e)
	}
	if l, e := reconstruct.KeptOf(nil, 1, s); len(l) != 0 || e != api.ErrArgument {
		t.Errorf("KeptOf = %v, %d", l, e)
	}
	if u, e := reconstruct.Trajectory(nil, 1, s); len(u) != 0 || e != api.ErrArgument {
		t.Errorf("Trajectory = %v, %d", u, e)
	}
	if l, e := reconstruct.Objects(nil, s); len(l) != 0 || e != api.ErrArgument {
		t.Errorf("Objects = %v, %d", l, e)
	}
	if d, e := reconstruct.Database(nil, s, []api.Zone{{Name: "a"}}); len(d.Objects)+len(d.Zones) != 0 || e != api.ErrArgument {
		t.Errorf("Database = %v, %d", d, e)
	}
	if g, e := reconstruct.Gaps(nil, 1, s); len(g) != 0 || e != api.ErrArgument {
		t.Errorf("Gaps = %v, %d", g, e)
	}
	if k, e := reconstruct.Explain(nil, one("1.0"), s); k != 0 || e != api.ErrArgument {
		t.Errorf("Explain = %d, %d", k, e)
	}
}

// Nothing is specified for settings and lists that are not valid; but nothing panics, and everything ends.
func TestInvalid(t *testing.T) {
	wrong := timed("5 1.0 x9223372036854775807 y-9223372036854775808, 3 1.1 x-9223372036854775808, 3 1.1, 9 -1.-5 c, 2 1.1")
	for _, r := range notation.Wrong() {
		wrong = append(wrong, intake.Timed{T: r.P})
	}
	x := from(t, batch("1.0, 1.1 t7 x3, 1.2 d2, 2.0 t9"+clocks))
	for _, n := range []int{0, -1, 1, math.MinInt, math.MaxInt} {
		for _, m := range []int{0, -1, 1, math.MinInt, math.MaxInt} {
			s := api.Settings{MaxSpeed: n, MaxGap: m}
			reconstruct.CheckSettings(s)
			reconstruct.Chain(wrong, s)
			reconstruct.Through(wrong, s)
			reconstruct.Through(slices.Repeat(wrong, 50), s)
			for _, r := range wrong {
				reconstruct.Compatible(r, wrong[0], s)
				reconstruct.Explain(x, r.Report, s)
			}
			says(x, s)
			reconstruct.Trajectory(x, n, s)
			reconstruct.Gaps(x, n, s)
		}
	}
}
