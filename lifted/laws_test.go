package lifted_test

import (
	"slices"
	"testing"

	"viator/api"
	"viator/lifted"
	"viator/movingbool"
	"viator/movinglabel"
	"viator/movingnumber"
	"viator/movingpoint"
	"viator/movingregion"
	"viator/period"
	"viator/polygon"
	"viator/rational"
)

func TestP18_6Distances(t *testing.T) {
	by := point("-7/3,5")
	pairs(func(a, b []api.PointUnit) {
		d := lifted.Distance2(a, b)
		if !movingnumber.Same(d, lifted.Distance2(b, a)) {
			t.Errorf("Distance2(%s; %s) is not symmetric", showUnits(a), showUnits(b))
		}
		if !movingnumber.Same(d, lifted.Distance2(movingpoint.Translate(a, by), movingpoint.Translate(b, by))) {
			t.Errorf("Distance2(%s; %s) is not that of both translated", showUnits(a), showUnits(b))
		}
		if zero, meets := movingnumber.When(d, api.Rat{}, api.Rat{}), lifted.Meets(a, b); !period.Equal(zero, meets.True) || !period.Equal(movingnumber.Domain(d), meets.Domain) {
			t.Errorf("Meets(%s; %s) = %s, and the distance is zero during %s", showUnits(a), showUnits(b), showBool(meets), show(zero))
		}
		var before api.Bool
		for _, r := range []string{"-1", "0", "1/3", "1", "7/5", "2", "5", "100"} {
			got := lifted.Within(a, b, rat(r))
			if !period.Covers(got.True, before.True) || !period.Equal(got.Domain, movingnumber.Domain(d)) {
				t.Errorf("Within(%s; %s; %s) = %s, and for a lesser distance %s", showUnits(a), showUnits(b), r, showBool(got), showBool(before))
			}
			before = got
		}
	})
}

// A moving point in a region that moves along with it is in it always or never.
func TestP18_6Rigid(t *testing.T) {
	inside, outside := 0, 0
	for _, s := range polygons() {
		for _, offset := range []string{"0,0", "2,0", "1/2,1/2", "3,3", "5,1/3", "1,1"} {
			where := polygon.Locate(poly(s), point(offset))
			each(func(a []api.PointUnit) {
				b, z := movingpoint.Translate(a, point(offset)), movingregion.Rigid(poly(s), a)
				if got, want := lifted.Inside(b, z), movingbool.Constant(where != polygon.Outside, movingpoint.Domain(a)); !movingbool.Equal(got, want) {
					t.Errorf("Inside(%s; %s) = %s; want %s", showUnits(b), showZone(z), showBool(got), showBool(want))
				}
				if got, want := lifted.Border(b, z), movingbool.Constant(where == polygon.Border, movingpoint.Domain(a)); !movingbool.Equal(got, want) {
					t.Errorf("Border(%s; %s) = %s; want %s", showUnits(b), showZone(z), showBool(got), showBool(want))
				}
			})
			if where == polygon.Outside {
				outside++
			} else {
				inside++
			}
		}
	}
	if inside < 10 || outside < 10 {
		t.Errorf("%d times inside, %d times outside", inside, outside)
	}
}

func TestP18_6Border(t *testing.T) {
	visits(func(a []api.PointUnit, z []api.RegionUnit) {
		inside, border := lifted.Inside(a, z), lifted.Border(a, z)
		if !period.Covers(inside.True, border.True) || !period.Equal(inside.Domain, border.Domain) {
			t.Errorf("Inside(%s; %s) = %s, and Border is %s", showUnits(a), showZone(z), showBool(inside), showBool(border))
		}
	})
}

// What is true of moving points that are shifted in time is what was true of the old ones, shifted.
func TestP18_6Shift(t *testing.T) {
	for _, s := range []string{"3", "-7/3"} {
		by := rat(s)
		later := func(a []api.PointUnit) []api.PointUnit { return movingpoint.Shift(a, by) }
		compare := func(name string, got, want api.Bool) {
			t.Helper()
			if !movingbool.Equal(got, movingbool.Shift(want, by)) {
				t.Errorf("%s = %s, and shifted by %s %s", name, showBool(want), s, showBool(got))
			}
		}
		pairs(func(a, b []api.PointUnit) {
			compare("Within", lifted.Within(later(a), later(b), rat("2")), lifted.Within(a, b, rat("2")))
			compare("Meets", lifted.Meets(later(a), later(b)), lifted.Meets(a, b))
			compare("Towards", lifted.Towards(later(a), later(b)), lifted.Towards(a, b))
			if got, want := lifted.Distance2(later(a), later(b)), movingnumber.Shift(lifted.Distance2(a, b), by); !movingnumber.Same(got, want) {
				t.Errorf("Distance2 = %s; want %s", showNumbers(got), showNumbers(want))
			}
		})
		visits(func(a []api.PointUnit, z []api.RegionUnit) {
			compare("Inside", lifted.Inside(later(a), movingregion.Shift(z, by)), lifted.Inside(a, z))
			compare("Border", lifted.Border(later(a), movingregion.Shift(z, by)), lifted.Border(a, z))
		})
		each(func(a []api.PointUnit) {
			for _, p := range polygons() {
				compare("InPolygon", lifted.InPolygon(later(a), poly(p)), lifted.InPolygon(a, poly(p)))
			}
			for _, text := range segments() {
				way := segment(text)
				compare("On", lifted.On(later(a), way), lifted.On(a, way))
				compare("WithinOf", lifted.WithinOf(later(a), way.A, rat("3/2")), lifted.WithinOf(a, way.A, rat("3/2")))
				if got, want := lifted.Side(later(a), way), movinglabel.Shift(lifted.Side(a, way), by); !movinglabel.Equal(got, want) {
					t.Errorf("Side = %s; want %s", showLabels(got), showLabels(want))
				}
				if got, want := lifted.SegmentDistance2(later(a), way), movingnumber.Shift(lifted.SegmentDistance2(a, way), by); !movingnumber.Same(got, want) {
					t.Errorf("SegmentDistance2 = %s; want %s", showNumbers(got), showNumbers(want))
				}
			}
		})
	}
}

// The number of units is not limited: here, each of both moving points has as many as it can have, and the region, too.
func TestP18Many(t *testing.T) {
	var a, b []movingpoint.Sample
	var times []api.Rat
	var squares []api.Polygon
	for k := range api.MaxUnits {
		x := rational.FromInt(k % 2 * 4)
		a = append(a, movingpoint.Sample{T: rational.FromInt(2 * k), P: api.Point{X: x}})
		b = append(b, movingpoint.Sample{T: rational.FromInt(2*k + 1), P: api.Point{X: x}})
		if k < 64 {
			times = append(times, rational.FromInt(2*k+1))
			squares = append(squares, poly([]string{"1:-1 3:-1 3:1 1:1", "0:-1 2:-1 2:1 0:1"}[k%2]))
		}
	}
	first, e := movingpoint.FromSamples(a)
	second, f := movingpoint.FromSamples(b)
	region, g := movingregion.Snapshots(times, squares)
	if e != api.OK || f != api.OK || g != api.OK {
		t.Fatal(e, f, g)
	}
	if d := lifted.Distance2(first, second); len(d) < 2*len(first)-2 {
		t.Errorf("%d units", len(d))
	}
	if met := lifted.Meets(first, second); len(met.True) != api.MaxUnits-2 {
		t.Errorf("%d meetings", len(met.True))
	}
	if visits := lifted.Inside(first, region); len(visits.True) < 60 {
		t.Errorf("%d visits", len(visits.True))
	}
}

func TestArguments(t *testing.T) {
	a, b := units("[0 2] 0,2 0; (2 4] 4 -6,3"), units("[0 1) 0 0,1; (1 4] 4 -3,1")
	z := zone("[0 3] -9:-9 9:-9 9:9 -9:9 | 1,1:0 2,1:0 1,1:2")
	p := poly("0:0 8:0 8:4 0:4 | 2:1 6:1 6:3 2:3")
	before := showUnits(a) + showUnits(b) + showZone(z)
	wipe := func(l []api.Interval) { clear(l[:cap(l)]) }
	for _, got := range []api.Bool{
		lifted.Within(a, b, rat("2")), lifted.WithinOf(a, point("1,1"), rat("5")), lifted.Meets(a, b), lifted.Meets(a, a), lifted.Inside(a, z), lifted.Border(a, z), lifted.InPolygon(a, p), lifted.On(a, segment("0,0 4,0")), lifted.Towards(a, b),
	} {
		domain := slices.Clone(got.Domain)
		wipe(got.True)
		if !slices.Equal(domain, got.Domain) {
			t.Errorf("both periods of %s share memory", showBool(got))
		}
		wipe(got.Domain)
	}
	for _, l := range [][]api.NumberUnit{lifted.Distance2(a, b), lifted.DistanceTo2(a, point("1,1")), lifted.SegmentDistance2(a, segment("0,0 4,0")), lifted.SegmentDistance2(a, segment("0,0 0,0"))} {
		clear(l[:cap(l)])
	}
	side := lifted.Side(a, segment("0,0 4,0"))
	clear(side[:cap(side)])
	if after := showUnits(a) + showUnits(b) + showZone(z); after != before {
		t.Errorf("the arguments are %s, not %s", after, before)
	}
	if len(p.Holes) != 1 || p.Outer[2] != point("8,4") || p.Holes[0][2] != point("6,3") {
		t.Errorf("the polygon is %v", p)
	}
}

// Nothing is specified for values that are not valid, but no function may panic or go on for ever.
func TestP1NotValid(t *testing.T) {
	ends := append(wrong(), reals("0 1 0+sqrt(2)")...)
	for k, x := range ends {
		for n, y := range ends {
			i := api.Interval{From: x, To: y, OpenFrom: k > n, OpenTo: k%2 == 0}
			f := api.Line{X0: x.P, X1: y.R, Y0: y.P, Y1: x.R}
			a := []api.PointUnit{{In: i, F: f}, {In: api.Interval{From: y, To: x}}, {In: i}}
			b := []api.PointUnit{{In: api.Interval{From: y, To: y}, F: f}, {In: i, F: f}}
			p := api.Polygon{Outer: []api.Point{{X: x.P, Y: y.R}, {}, {X: y.P}}, Holes: [][]api.Point{nil, {{X: x.R}}}}
			s := api.Segment{A: api.Point{X: x.P, Y: y.R}, B: api.Point{X: y.P, Y: x.R}}
			for _, l := range [][]api.PointUnit{a, b, nil} {
				lifted.Distance2(a, l)
				lifted.DistanceTo2(l, s.A)
				lifted.SegmentDistance2(l, s)
				lifted.Within(a, l, y.P)
				lifted.WithinOf(l, s.B, x.R)
				lifted.Meets(a, l)
				for _, z := range [][]api.RegionUnit{nil, {{In: i}}, {{In: i, Outer: []api.Line{f, {}, f}, Holes: [][]api.Line{nil, {f}}}, {In: api.Interval{From: y, To: y}, Outer: []api.Line{f}}}} {
					lifted.Inside(l, z)
					lifted.Border(l, z)
				}
				for _, p := range []api.Polygon{{}, p} {
					lifted.InPolygon(l, p)
				}
				lifted.Side(l, s)
				lifted.On(l, s)
				lifted.Towards(a, l)
			}
		}
	}
}
