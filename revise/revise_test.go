package revise_test

import (
	"math"
	"slices"
	"testing"

	"viator/api"
	"viator/draws"
	"viator/movingpoint"
	"viator/notation"
	"viator/period"
	"viator/rational"
	"viator/real"
	"viator/revise"
	"viator/surd"
)

func TestP29_1Examples(t *testing.T) {
	const way = "[0 4] 0,1 0"
	for _, c := range [][3]string{
		{"", "", ""}, {way, way, ""}, {way, "", "[0 4]"}, {way, "[0 2] 0,2 0; (2 4] 4 0", "(0 4)"}, {way, "[0 4] 4,-1 0", "[0 2), (2 4]"}, {way, "[2 6] 0,1 0", "[0 2), (4 6]"}, {way, "(0 4) 0,1 0", "[0 0], [4 4]"}, {way, "[0 1) 0,1 0; (1 4] 0,1 0", "[1 1]"}, {way, "[0 1) 0,1 0; [1 1] 7 7; (1 4] 0,1 0", "[1 1]"}, {way, "[5 6] 0,1 0", "[0 4], [5 6]"},
		// One coordinate is the same, always or once.
		{way, "[0 4] 0,1 1", "[0 4]"}, {way, "[0 4] 1,1 0", "[0 4]"}, {way, "[0 4] 0,1 -3,1", "[0 3), (3 4]"}, {way, "[0 4] 0,2 -3,1", "[0 4]"}, {way, "[0 4] 3 -3,1", "[0 3), (3 4]"},
		// Irrational instants.
		{way, "[0 0+sqrt(2)] 0,1 0; (0+sqrt(2) 4] 0 0", "(0+sqrt(2) 4]"}, {way, "[0+sqrt(2) 0+sqrt(2)] 0,1 0", "[0 0+sqrt(2)), (0+sqrt(2) 4]"}, {way, "[0+sqrt(2) 0+sqrt(2)] 0,2 0", "[0 4]"}, {"[0+sqrt(2) 0+sqrt(2)] 0,1 0", "[0+sqrt(2) 0+sqrt(2)] 0,1 0", ""},
		// Both are on the same line, but not at the same time.
		{way, "[0 4] 1/2,1 0", "[0 4]"}, {"[1 1] 1 0; [3 3] 3 0", way, "[0 1), (1 3), (3 4]"}, {"(0 2) 0,1 0; (2 4) 2 0", "(0 4) 2 0", "(0 2]"},
	} {
		for range 2 {
			if got := revise.Differ(units(c[0]), units(c[1])); show(got) != c[2] {
				t.Errorf("Differ(%s; %s) = %s; want %s", c[0], c[1], show(got), c[2])
			}
			c[0], c[1] = c[1], c[0]
		}
	}
}

func TestP29_1(t *testing.T) {
	counts := map[bool]int{}
	pairs(func(a, b []api.PointUnit) {
		got := revise.Differ(a, b)
		if period.Check(got) != api.OK {
			t.Errorf("Differ(%s; %s) = %s", showUnits(a), showUnits(b), show(got))
		}
		for _, m := range instants(a, b) {
			want := differ(a, b, m)
			counts[want]++
			if period.Contains(got, m) != want {
				t.Fatalf("Differ(%s; %s) = %s is wrong at %s", showUnits(a), showUnits(b), show(got), real.Print(m))
			}
		}
	})
	if min(counts[false], counts[true]) < 2000 {
		t.Errorf("the numbers of instants at which moving points differ or not are %v", counts)
	}
}

func TestP29_2Examples(t *testing.T) {
	const way = "[0 4] 0,1 0"
	for s, want := range map[string]api.Errno{
		"": api.OK, "1: [0 4] 0,1 0 >": api.OK, "1: > [0 4] 0,1 0": api.OK, "1073741824: > [0 4] 0,1 0": api.OK, "2: [0 4] 0,1 0 > [0 4] 1,1 0 | 3: > [0 4] 0,1 0": api.OK,
		"0: > [0 4] 0,1 0": api.ErrId, "-1: > [0 4] 0,1 0": api.ErrId, "1073741825: > [0 4] 0,1 0": api.ErrId, "9223372036854775807: >": api.ErrId, "0: [4 0] 1 1 >": api.ErrId, "0: >": api.ErrId,
		"2: > [0 4] 0,1 0 | 1: > [0 4] 0,1 0": api.ErrOrder, "2: > [0 4] 0,1 0 | 2: > [0 4] 0,1 0": api.ErrOrder, "2: > [0 4] 0,1 0 | 2: > [5 5] 0 0": api.ErrOrder, "2: > [0 4] 0,1 0 | 1: [4 0] 1 1 >": api.ErrOrder, "2: > [0 4] 0,1 0 | 1: >": api.ErrOrder, "2: > [0 4] 0,1 0 | 0: >": api.ErrId,
		// The moving points.
		"1: [4 0] 1 1 > [0 4] 0,1 0": api.ErrEmpty, "1: [0 4] 0,1 0 > [4 0] 1 1": api.ErrEmpty, "1: [0 4] 0,1 0; [4 5] 4 0 > [1 0] 1 1": api.ErrOrder, "1: [1 0] 1 1 > [0 4] 0,1 0; [4 5] 4 0": api.ErrEmpty, "1: [0 4) 0,1 0; [4 5] 4 0 >": api.ErrForm, "1: > [1 1] 0,1 0": api.ErrForm,
		// No units, and the same position.
		"1: >": api.ErrEmpty, "1: [0 4] 0,1 0 > [0 4] 0,1 0": api.ErrConflict, "1: [0 4] 0,1 0 > [0 4] 4,-1 0": api.ErrConflict, "1: [0 4] 0,1 0 > [0 2) 4,-1 0; (2 4] 4,-1 0": api.OK, "1: [0 2) 0,1 0; (2 4] 0,1 0 > [0 4] 4,-1 0": api.OK, "1: [0 4] 0,1 0 > [0 4] 4,-1 1": api.OK, "1: [0 4] 0,1 0 > [4 5] 0,1 0": api.ErrConflict, "1: [0 4) 0,1 0 > [4 5] 0,1 0": api.OK, "1: [0 4] 0,1 0 > [0+sqrt(2) 0+sqrt(2)] 0,1 0": api.ErrConflict, "1: [0 4] 0,1 0 > [0+sqrt(2) 0+sqrt(2)] 0,2 0": api.OK,
		// The first change with an error decides.
		"1: > | 0: >": api.ErrEmpty, "0: > | 1: >": api.ErrId, "1: > [0 1] 0 0 | 2: [0 1] 0 0 > [0 1] 0 0 | 2: > [0 1] 0 0": api.ErrConflict, "3: > [0 1] 0 0 | 4: > [0 1) 0 0; [1 1] 0 0 | 0: >": api.ErrForm,
	} {
		if e := revise.Check(changes(s)); e != want {
			t.Errorf("Check(%s) = %d; want %d", s, e, want)
		}
	}
	many := make([]api.PointUnit, api.MaxUnits+1)
	for k := range many {
		many[k].In = api.Interval{From: real.FromInt(2 * k), To: real.FromInt(2*k + 1)}
	}
	bad := notation.Wrong()[2]
	for k, c := range []struct {
		change revise.Change
		want   api.Errno
	}{
		{revise.Change{Object: 1, Retracted: many}, api.ErrLimit}, {revise.Change{Object: 1, Asserted: many}, api.ErrLimit}, {revise.Change{Object: 1, Asserted: many[1:]}, api.OK}, {revise.Change{Object: 1, Retracted: many[1:]}, api.OK}, {revise.Change{Object: 1, Retracted: many[1:], Asserted: many}, api.ErrLimit}, {revise.Change{Object: 1, Retracted: []api.PointUnit{{In: api.Interval{To: bad}}}, Asserted: many}, api.ErrForm}, {revise.Change{Object: 1, Asserted: []api.PointUnit{{F: api.Line{X0: bad.P}}}}, api.ErrForm},
	} {
		if e := revise.Check([]revise.Change{c.change}); e != c.want {
			t.Errorf("%d: Check = %d; want %d", k, e, c.want)
		}
	}
	// There can be more changes than objects.
	var l []revise.Change
	for k := range 3 * api.MaxObjects {
		l = append(l, revise.Change{Object: k + 1, Asserted: units(way)})
	}
	if e := revise.Check(l); e != api.OK {
		t.Errorf("Check of many = %d", e)
	}
}

func TestP29_2(t *testing.T) {
	counts := map[api.Errno]int{}
	pairs(func(a, b []api.PointUnit) {
		// The moving points, and those parts of them that are not the same.
		during := revise.Differ(a, b)
		for _, c := range []revise.Change{{Object: 1, Retracted: a, Asserted: b}, {Object: 1, Retracted: movingpoint.Restrict(a, during), Asserted: movingpoint.Restrict(b, during)}} {
			want := api.OK
			if len(c.Retracted)+len(c.Asserted) == 0 {
				want = api.ErrEmpty
			}
			for _, m := range instants(c.Retracted, c.Asserted) {
				if together(c.Retracted, c.Asserted, m) {
					want = api.ErrConflict
				}
			}
			counts[want]++
			if e := revise.Check([]revise.Change{c}); e != want {
				t.Errorf("Check(%s) = %d; want %d", showChanges([]revise.Change{c}), e, want)
			}
		}
	})
	if min(counts[api.OK], counts[api.ErrConflict]) < 100 {
		t.Errorf("the numbers of errors are %v", counts)
	}
}

func TestP29_3Examples(t *testing.T) {
	for _, c := range [][3]string{
		{"", "", ""}, {"2: [0 4] 0,1 0", "2: [0 4] 0,1 0", ""}, {"2: [0 4] 0,1 0", "2: [0 2] 0,2 0; (2 4] 4 0", "2: (0 4) 0,1 0 > (0 2] 0,2 0; (2 4) 4 0"}, {"2: [0 4] 0,1 0", "", "2: [0 4] 0,1 0 >"}, {"", "2: [0 4] 0,1 0", "2: > [0 4] 0,1 0"}, {"2: [0 4] 0,1 0", "2: [0 4] 4,-1 0", "2: [0 2) 0,1 0; (2 4] 0,1 0 > [0 2) 4,-1 0; (2 4] 4,-1 0"},
		// What is added behind, cut off in front, and missing in the middle.
		{"2: [0 4] 0,1 0", "2: [0 6] 0,1 0", "2: > (4 6] 0,1 0"}, {"2: [0 4] 0,1 0", "2: [1 4] 0,1 0", "2: [0 1) 0,1 0 >"}, {"2: [0 4] 0,1 0", "2: [0 1] 0,1 0; [3 4] 0,1 0", "2: (1 3) 0,1 0 >"}, {"2: [0 4] 0,1 0", "2: [0 1) 0,1 0; [1 1] 1 1; (1 4] 0,1 0", "2: [1 1] 1 0 > [1 1] 1 1"},
		// Several objects.
		{"2: [0 4] 0,1 0 | 5: [1 3] 9 9", "2: [0 2] 0,2 0; (2 4] 4 0 | 7: [1 3] 9 9", "2: (0 4) 0,1 0 > (0 2] 0,2 0; (2 4) 4 0 | 5: [1 3] 9 9 > | 7: > [1 3] 9 9"}, {"5: [1 3] 9 9 | 6: [0 1] 0 0", "1: [1 3] 9 9 | 6: [0 1] 0 0 | 1073741824: [0 1] 3 3", "1: > [1 3] 9 9 | 5: [1 3] 9 9 > | 1073741824: > [0 1] 3 3"},
		// The parts are reduced, and not joined where they do not meet.
		{"2: [0 3] 0,1 0", "2: [0 1) 0,1 0; [1 1] 5 5; (1 2) 0,1 0; [2 3] 2 0", "2: [1 1] 1 0; (2 3] 0,1 0 > [1 1] 5 5; (2 3] 2 0"}, {"2: [0+sqrt(2) 3] 0,1 0", "2: (0+sqrt(2) 3] 0,1 0", "2: [0+sqrt(2) 0+sqrt(2)] 0,1 0 >"},
	} {
		got, e := revise.Between(objects(c[0]), objects(c[1]))
		if showChanges(got) != c[2] || e != api.OK {
			t.Errorf("Between(%s; %s) = %s, %d; want %s", c[0], c[1], showChanges(got), e, c[2])
		}
	}
}

func TestP29_3(t *testing.T) {
	parts := 0
	databases(func(old, now []api.Object) {
		got, e := revise.Between(old, now)
		if e != api.OK {
			t.Errorf("Between(%s; %s): %d", showObjects(old), showObjects(now), e)
		}
		last := 0
		for id := range 30 {
			a, b := wayOf(old, id), wayOf(now, id)
			when := instants(a, b)
			differs := slices.ContainsFunc(when, func(m api.Real) bool { return differ(a, b, m) })
			k := slices.IndexFunc(got, func(c revise.Change) bool { return c.Object == id })
			if differs != (k >= 0) {
				t.Errorf("Between(%s; %s) = %s", showObjects(old), showObjects(now), showChanges(got))
			}
			if k < 0 {
				continue
			}
			if k != last {
				t.Errorf("Between(%s; %s) = %s has another order", showObjects(old), showObjects(now), showChanges(got))
			}
			last++
			parts += len(got[k].Retracted) + len(got[k].Asserted)
			where := func(way []api.PointUnit) func(m api.Real) (api.RealPoint, bool) {
				return func(m api.Real) (api.RealPoint, bool) {
					p, defined := positionAt(way, m)
					return p, defined && differ(a, b, m)
				}
			}
			if !is(got[k].Retracted, when, where(a)) || !is(got[k].Asserted, when, where(b)) {
				t.Errorf("Between(%s; %s) = %s", showObjects(old), showObjects(now), showChanges(got))
			}
		}
		if len(got) != last {
			t.Errorf("Between(%s; %s) = %s has more objects", showObjects(old), showObjects(now), showChanges(got))
		}
	})
	if parts < 500 {
		t.Errorf("%d parts", parts)
	}
}

// patterned returns the moving point that has, in each of a number of intervals of the length 8, the same functions in turn, which begin anew in each interval.
func patterned(number int, functions ...string) []api.PointUnit {
	var l []api.PointUnit
	for k := range number {
		start := rational.FromInt(10 * k)
		part := units("[0 8] " + functions[k%len(functions)])
		l = append(l, movingpoint.Shift(part, start)...)
	}
	return l
}

// As many units as permitted, and one more.
func TestP29_3Limit(t *testing.T) {
	const rests, crosses, beside = "0 0", "-4,1 0", "0 1"
	for _, c := range []struct {
		old, now []api.PointUnit
		e        api.Errno
		size     [2]int
	}{
		{patterned(128, rests), patterned(128, crosses), api.OK, [2]int{256, 256}}, {patterned(129, rests), patterned(129, crosses), api.ErrLimit, [2]int{}}, {patterned(256, rests), patterned(256, beside), api.OK, [2]int{256, 256}}, {patterned(256, rests), patterned(1, crosses), api.ErrLimit, [2]int{}}, {patterned(255, rests), patterned(1, crosses), api.OK, [2]int{256, 2}},
		// Only one of both has too many units.
		{units("[0 2558] 0 0"), patterned(128, crosses), api.OK, [2]int{129, 256}}, {units("[0 2558] 0 0"), patterned(129, crosses), api.ErrLimit, [2]int{}}, {patterned(129, crosses), units("[0 2558] 0 0"), api.ErrLimit, [2]int{}},
	} {
		old, now := []api.Object{{Id: 1, Units: units("[0 1] 0 0")}, {Id: 2, Units: c.old}}, []api.Object{{Id: 2, Units: c.now}}
		l, e := revise.Between(old, now)
		if e != c.e || e != api.OK && len(l) != 0 {
			t.Errorf("Between: %d changes, and the error %d; want %d", len(l), e, c.e)
		}
		if e == api.OK && [2]int{len(l[1].Retracted), len(l[1].Asserted)} != c.size {
			t.Errorf("Between: %d and %d units; want %v", len(l[1].Retracted), len(l[1].Asserted), c.size)
		}
	}
}

func TestP29_4Examples(t *testing.T) {
	const old = "2: [0 4] 0,1 0 | 5: [1 3] 9 9"
	for _, c := range []struct{ old, changes, want string }{
		{"", "", ""}, {old, "", old}, {old, "5: [1 2] 9 9 >", "2: [0 4] 0,1 0 | 5: (2 3] 9 9"}, {old, "5: [1 3] 9 9 >", "2: [0 4] 0,1 0"}, {old, "5: > [4 5] 0 0", "2: [0 4] 0,1 0 | 5: [1 3] 9 9; [4 5] 0 0"}, {old, "2: (0 4) 0,1 0 > (0 2] 0,2 0; (2 4) 4 0", "2: [0 2] 0,2 0; (2 4] 4 0 | 5: [1 3] 9 9"}, {old, "1: > [7 7] 1 1 | 3: > [0 1] 0,1 0 | 9: > [0 2] 0 0", "1: [7 7] 1 1 | 2: [0 4] 0,1 0 | 3: [0 1] 0,1 0 | 5: [1 3] 9 9 | 9: [0 2] 0 0"}, {old, "2: [0 4] 0,1 0 > | 5: [1 3] 9 9 >", ""}, {old, "2: [0 4] 0,1 0 > [1 1] 3 3 | 5: [1 3] 9 9 > | 6: > [1 3] 9 9", "2: [1 1] 3 3 | 6: [1 3] 9 9"},
		// What is asserted is joined to what is there, and may be where nothing was.
		{old, "5: > (3 4] 9 9", "2: [0 4] 0,1 0 | 5: [1 4] 9 9"}, {old, "5: > [0 1) 8,1 9", "2: [0 4] 0,1 0 | 5: [0 1] 8,1 9; (1 3] 9 9"}, {old, "5: > [0 1) 9 9; (3 7) 9 9", "2: [0 4] 0,1 0 | 5: [0 7) 9 9"}, {old, "2: [2 2] 2 0 > [2 2] 2 1", "2: [0 2) 0,1 0; [2 2] 2 1; (2 4] 0,1 0 | 5: [1 3] 9 9"}, {"2: [0 2) 0,1 0; [2 2] 2 1; (2 4] 0,1 0", "2: [2 2] 2 1 > [2 2] 2 0", "2: [0 4] 0,1 0"},
		{old, "2: [0 0+sqrt(2)] 0,1 0 > [-1 0-sqrt(1/2)] 3 3; [1 0+sqrt(2)) 0 0", "2: [-1 0-sqrt(1/2)] 3 3; [1 0+sqrt(2)) 0 0; (0+sqrt(2) 4] 0,1 0 | 5: [1 3] 9 9"},
	} {
		got, e := revise.Apply(objects(c.old), changes(c.changes))
		if showObjects(got) != c.want || e != api.OK {
			t.Errorf("Apply(%s; %s) = %s, %d; want %s", c.old, c.changes, showObjects(got), e, c.want)
		}
	}
}

func TestP29_4Errors(t *testing.T) {
	const old = "2: [0 4] 0,1 0 | 5: [1 3] 9 9"
	for s, want := range map[string]api.Errno{
		// Those of Check, even behind changes that do not fit.
		"0: > [1 3] 9 9": api.ErrId, "5: [1 3] 9 9 > | 2: [0 4] 0,1 0 >": api.ErrOrder, "5: >": api.ErrEmpty, "5: [1 3] 9 9 > [1 3] 9 9": api.ErrConflict, "2: [0 5] 0,1 0 > | 5: [3 1] 0 0 >": api.ErrEmpty, "2: [0 5] 0,1 0 > | 1: > [0 1] 0 0": api.ErrOrder,
		// What is retracted is not the trajectory.
		"5: [1 4] 9 9 >": api.ErrConflict, "5: [0 3] 9 9 >": api.ErrConflict, "5: [1 3] 9 8 >": api.ErrConflict, "5: [1 3] 8,1 9 >": api.ErrConflict, "5: [4 4] 9 9 >": api.ErrConflict, "6: [1 3] 9 9 >": api.ErrConflict, "6: [1 3] 9 9 > [0 1) 1 1": api.ErrConflict, "5: [1 1] 9 9; [3 4] 9 9 >": api.ErrConflict, "2: [0+sqrt(2) 0+sqrt(2)] 0,2 0 >": api.ErrConflict,
		// What is asserted is where something else is.
		"5: > [1 3] 0 0": api.ErrConflict, "5: > [1 3] 9 9": api.ErrConflict, "5: > [3 4] 0 0": api.ErrConflict, "5: > [3 4] 9 9": api.ErrConflict, "5: [1 2] 9 9 > [1 3] 0 0": api.ErrConflict, "5: [1 2) 9 9 > [2 2] 0 0": api.ErrConflict, "2: > [0+sqrt(2) 0+sqrt(2)] 0,1 0": api.ErrConflict,
		"2: [0 4] 0,1 0 > | 5: [1 4] 9 9 >": api.ErrConflict,
	} {
		if got, e := revise.Apply(objects(old), changes(s)); len(got) != 0 || e != want {
			t.Errorf("Apply(%s) = %s, %d; want %d", s, showObjects(got), e, want)
		}
	}
}

// As many units and objects as permitted, and one more.
func TestP29_4Limits(t *testing.T) {
	full := patterned(256, "0 0")
	many := func(number int) []api.Object {
		var l []api.Object
		for k := range number {
			l = append(l, api.Object{Id: k + 1, Units: units("[0 1] 0 0")})
		}
		return append(l, api.Object{Id: 1000, Units: full})
	}
	const another = "2000: > [0 1] 0 0"
	for _, c := range []struct {
		objects int
		changes string
		e       api.Errno
		want    int
	}{
		{1, "1000: > (8 9) 0 0", api.OK, 2}, {1, "1000: > (8 9) 1 1", api.ErrLimit, 0}, {1, "1000: > [5000 5000] 0 0", api.ErrLimit, 0}, {1, "1000: [3 3] 0 0 >", api.ErrLimit, 0}, {1, "1000: [3 4] 0 0; [10 18] 10 0 >", api.ErrConflict, 0}, {1, "1000: [3 4] 0 0; [10 18] 0 0 >", api.OK, 2}, {1, "1000: [0 8] 0 0 > [4 4] 0 7", api.OK, 2},
		{63, "", api.OK, 64}, {62, another, api.OK, 64}, {63, another, api.ErrLimit, 0}, {63, "7: [0 1] 0 0 > | " + another, api.OK, 64}, {63, "7: [0 1] 0 0 > [2 2] 1 1 | " + another, api.ErrLimit, 0}, {63, "7: [0 1] 0 0 > | 64: > [1 1] 1 1 | " + another, api.ErrLimit, 0},
		// The changes in order; the number of objects at last.
		{63, "7: > [1 2] 0 0 | " + another, api.ErrConflict, 0}, {63, another + " | 3000: [1 1] 0 0 >", api.ErrConflict, 0}, {1, "1000: [3 3] 0 0 > | 3000: [1 1] 0 0 >", api.ErrLimit, 0}, {1, "1: > [1 1] 0 0 | 1000: [3 3] 0 0 >", api.ErrConflict, 0}, {1, "1000: [3 3] 0 0 > | 3000: >", api.ErrEmpty, 0}, {1, "1000: [3 3] 0 1 >", api.ErrConflict, 0},
	} {
		got, e := revise.Apply(many(c.objects), changes(c.changes))
		if len(got) != c.want || e != c.e {
			t.Errorf("Apply(%s) to %d: %d objects, and the error %d; want %d, %d", c.changes, c.objects+1, len(got), e, c.want, c.e)
		}
	}
}

// fits tells by the words of the chapter whether a change fits a trajectory, and where the object is behind it.
func fits(way []api.PointUnit, c revise.Change, m api.Real) bool {
	_, defined := positionAt(way, m)
	_, retracted := positionAt(c.Retracted, m)
	_, asserted := positionAt(c.Asserted, m)
	return (!retracted || together(way, c.Retracted, m)) && !(asserted && defined && !retracted)
}

func replaced(way []api.PointUnit, c revise.Change, m api.Real) (api.RealPoint, bool) {
	if p, asserted := positionAt(c.Asserted, m); asserted {
		return p, true
	}
	if _, retracted := positionAt(c.Retracted, m); retracted {
		return api.RealPoint{}, false
	}
	return positionAt(way, m)
}

func TestP29_4(t *testing.T) {
	draw := draws.From(79)
	counts := map[api.Errno]int{}
	all := ways(300)
	pairs(func(way, other []api.PointUnit) {
		// Parts of the trajectory, or of another one, are retracted and asserted.
		during := revise.Differ(all[draw(len(all))], all[draw(len(all))])
		c := revise.Change{Object: 2, Retracted: movingpoint.Restrict(way, during), Asserted: movingpoint.Restrict(other, revise.Differ(other, way))}
		switch draw(4) {
		case 0:
			c.Retracted = movingpoint.Restrict(other, during)
		case 1:
			c.Asserted = movingpoint.Restrict(c.Asserted, period.Minus(during, movingpoint.Domain(way)))
		}
		if revise.Check([]revise.Change{c}) != api.OK {
			return
		}
		when := instants(way, c.Retracted, c.Asserted)
		want := api.OK
		if slices.ContainsFunc(when, func(m api.Real) bool { return !fits(way, c, m) }) {
			want = api.ErrConflict
		}
		counts[want]++
		old := []api.Object{{Id: 1, Units: units("[0 4] 0,1 0")}, {Id: 2, Units: way}, {Id: 3, Units: units("[1 1] 1 1")}}
		if len(way) == 0 {
			old = slices.Delete(old, 1, 2)
		}
		got, e := revise.Apply(old, []revise.Change{c})
		if e != want {
			t.Fatalf("Apply(%s; %s): %d; want %d", showObjects(old), showChanges([]revise.Change{c}), e, want)
		}
		if e != api.OK {
			return
		}
		now := wayOf(got, 2)
		if !is(now, when, func(m api.Real) (api.RealPoint, bool) { return replaced(way, c, m) }) {
			t.Errorf("Apply(%s; %s) = %s", showObjects(old), showChanges([]revise.Change{c}), showObjects(got))
		}
		got = slices.DeleteFunc(got, func(o api.Object) bool { return o.Id == 2 && len(now) > 0 })
		if showObjects(got) != "1: [0 4] 0,1 0 | 3: [1 1] 1 1" {
			t.Errorf("Apply(%s; %s) changes other objects, or leaves an empty one", showObjects(old), showChanges([]revise.Change{c}))
		}
	})
	if min(counts[api.OK], counts[api.ErrConflict]) < 70 {
		t.Errorf("the numbers of errors are %v", counts)
	}
}

func TestP29_5Examples(t *testing.T) {
	for _, c := range [][3]string{
		{"", "", ""}, {"2: (0 4) 0,1 0 > (0 2] 0,2 0; (2 4) 4 0 | 5: [1 3] 9 9 > | 7: > [1 5) 9 9", "2: (0 2] 0,2 0; (2 4) 4 0 > (0 4) 0,1 0 | 5: > [1 3] 9 9 | 7: [1 5) 9 9 >", "(0 5)"}, {"1: [0 1] 0 0 > [4 5) 0 0 | 2: > [3 4) 0 0; [5 5] 1 1", "1: [4 5) 0 0 > [0 1] 0 0 | 2: [3 4) 0 0; [5 5] 1 1 >", "[0 1], [3 5]"}, {"1: [0+sqrt(2) 2) 0 0 >", "1: > [0+sqrt(2) 2) 0 0", "[0+sqrt(2) 2)"},
	} {
		if got := revise.Inverse(changes(c[0])); showChanges(got) != c[1] {
			t.Errorf("Inverse(%s) = %s; want %s", c[0], showChanges(got), c[1])
		}
		if got := revise.Span(changes(c[0])); show(got) != c[2] {
			t.Errorf("Span(%s) = %s; want %s", c[0], show(got), c[2])
		}
	}
}

func TestP29_5(t *testing.T) {
	databases(func(old, now []api.Object) {
		l, _ := revise.Between(old, now)
		var all [][]api.PointUnit
		for _, c := range l {
			all = append(all, c.Retracted, c.Asserted)
		}
		span := revise.Span(l)
		if period.Check(span) != api.OK {
			t.Errorf("Span(%s) = %s", showChanges(l), show(span))
		}
		for _, m := range instants(all...) {
			want := slices.ContainsFunc(slices.Concat(all...), func(u api.PointUnit) bool { return surd.Contains(u.In, m) })
			if period.Contains(span, m) != want {
				t.Fatalf("Span(%s) = %s is wrong at %s", showChanges(l), show(span), real.Print(m))
			}
		}
		inverse := revise.Inverse(l)
		if len(inverse) != len(l) || showChanges(revise.Inverse(inverse)) != showChanges(l) {
			t.Errorf("Inverse(%s) = %s", showChanges(l), showChanges(inverse))
		}
		for k, c := range inverse {
			if c.Object != l[k].Object || !movingpoint.Same(c.Retracted, l[k].Asserted) || !movingpoint.Same(c.Asserted, l[k].Retracted) {
				t.Errorf("Inverse(%s) = %s", showChanges(l), showChanges(inverse))
			}
		}
	})
}

// Nothing is specified for arguments that are not valid; but nothing panics, and everything ends.
func TestInvalid(t *testing.T) {
	wrong := [][]api.PointUnit{nil, units("[4 0] 0,1 0"), units("[0 4] 0,1 0; [2 3] 5 5; [1 1] 0,1 0,1"), units("(1 1) 0,1 0")}
	for _, r := range notation.Wrong() {
		wrong = append(wrong, []api.PointUnit{{In: api.Interval{From: r, To: r}, F: api.Line{X0: r.P, X1: r.P, Y0: r.P, Y1: r.P}}}, []api.PointUnit{{In: api.Interval{To: r}, F: api.Line{X1: r.P}}})
	}
	for _, a := range wrong {
		for _, b := range wrong {
			revise.Differ(a, b)
			l := []revise.Change{{Object: 3, Retracted: a, Asserted: b}, {Object: math.MinInt, Retracted: b}}
			for k := range l {
				revise.Check(l[k:])
				revise.Inverse(l[k:])
				revise.Span(l[k:])
			}
			o := []api.Object{{Id: 3, Units: a}, {Id: 3, Units: b}, {Id: -1}}
			revise.Apply(o, l)
			revise.Apply(o, changes("3: > [7 8] 0 0"))
			revise.Between(o, o[1:])
		}
	}
}
