package revise_test

import (
	"math"
	"slices"
	"testing"

	"viator/api"
	"viator/arrivals"
	"viator/draws"
	"viator/intake"
	"viator/notation"
	"viator/period"
	"viator/reconstruct"
	"viator/revise"
)

// clocks are exchanges: the clock of the device 1 is 9/2 fast, and there is no way back from the device 2.
const clocks = " | 0>1 5, 1>0 -4, 0>2 7"

// settings are some that are valid.
var settings = []api.Settings{{MaxSpeed: 1, MaxGap: 4}, {MaxSpeed: 2, MaxGap: 6}, {MaxSpeed: 3, MaxGap: 100}, {MaxSpeed: 9, MaxGap: 3}}

// histories calls a function with what has arrived and a batch that arrives, for many histories.
func histories(t *testing.T, f func(x *intake.Intake, b api.Batch, s api.Settings)) {
	t.Helper()
	for k, history := range arrivals.Histories(draws.From(83), 200) {
		x := intake.New()
		for _, b := range history {
			f(x, b, settings[k%len(settings)])
			x.Add(b)
		}
	}
}

func TestP29_6Examples(t *testing.T) {
	const known = "1.0, 1.2 t4 x4, 2.0 x7, 3.0 d1 t9, 3.1 c, 4.0 d2, 5.0 d3, 7.5 v2 t1"
	for _, c := range []struct {
		b    string
		want []int
	}{
		{"", nil}, {"1.1 t2 x4, 2.0 x7", []int{1}}, {known + clocks, nil}, {"9.0, 8.0 d1, 6.0 t3", []int{6, 8, 9}}, {"1.2 v1 t4 x4, 1.0 v1", []int{1}}, {"2.0 v1 c", []int{2}}, {"2.0 x7 c, 1.2 t4 x3", []int{2}},
		// Reports that do not count, and those that have no time.
		{"7.5 v1 t9, 7.5 v2, 1.9 c, 9.0 c, 3.1, 4.1 d2, 4.0 v1 d2", nil}, {"7.5 v3 c", []int{7}}, {"7.5 v3 d2", []int{7}}, {"4.0 v1", []int{4}}, {"3.1 v1 d2", nil},
		// Messages, which can change the times of all reports of a device, give them times, or take them away.
		{"| 2>0 -3", []int{4}}, {"| 0>3 5", []int{5}}, {"| 0>3 5, 3>0 -5", []int{5}}, {"| 0>3 0, 3>0 0", nil}, {"| 0>1 5", nil}, {"| 0>1 6, 1>0 -3", nil}, {"| 1>0 -5", []int{3}}, {"| 0>1 3", []int{3}}, {"| 4>5 7", nil}, {"1.1 | 3>1 0", []int{1, 5}}, {"5.0 v1 d3 | 3>1 0", []int{5}}, {"9.0 d1 | 1>0 -5", []int{3, 9}}, {"1.1, 1.1, 1.2 t5", []int{1}},
	} {
		if got, e := revise.Affected(from(t, batch(known+clocks)), batch(c.b)); !slices.Equal(got, c.want) || e != api.OK {
			t.Errorf("Affected(%s) = %v, %d; want %v", c.b, got, e, c.want)
		}
	}
}

func TestP29_6(t *testing.T) {
	affected, spared := 0, 0
	histories(t, func(x *intake.Intake, b api.Batch, s api.Settings) {
		y := x.Clone()
		y.Add(b)
		var want []int
		for id := range 6 {
			if !slices.Equal(x.Of(id), y.Of(id)) {
				want = append(want, id)
			}
		}
		affected += len(want)
		spared += 3 - len(want)
		if got, e := revise.Affected(x, b); !slices.Equal(got, want) || e != api.OK {
			t.Errorf("Affected(%s) = %v, %d; want %v", notation.ShowBatch(b), got, e, want)
		}
	})
	if min(affected, spared) < 200 {
		t.Errorf("%d objects are affected, %d are not", affected, spared)
	}
}

func TestP29_7Examples(t *testing.T) {
	for _, c := range []struct{ known, b, want string }{
		{"", "", ""}, {"", "1.0, 1.1 t4 x4", "1: > [0 4] 0,1 0"}, {"1.0, 1.2 t4 x4, 2.0 x7", "1.1 t2 x4, 2.0 x7", "1: (0 4) 0,1 0 > (0 2] 0,2 0; (2 4) 4 0"}, {"1.0, 1.2 t4 x4, 2.0 x7", "2.0 v1 c", "2: [0 0] 7 0 >"}, {"1.0, 1.2 t4 x4", "1.1 t2 x2, 1.5 c", ""}, {"1.0, 1.1 t2 x4", "1.2 t9 x4, 1.3 t12 x4", "1: > [9 12] 4 0"},
		// A report that was kept is skipped now, and one that was skipped is kept.
		{"1.0 x99, 1.1 t2", "1.2 t3", "1: [0 0] 99 0 > [2 3] 0 0"},
		// Times become known, and unknown.
		{"1.0 d1 t9, 3.0 d2 t7" + clocks, "| 2>0 -7, 1>0 -5", "1: [9/2 9/2] 0 0 > [4 4] 0 0 | 3: > [0 0] 0 0"}, {"1.0 t2, 3.0 d2 t7", "| 0>2 7", "3: [7 7] 0 0 >"},
	} {
		x := from(t, batch(c.known))
		y, l, e := revise.Revise(x, batch(c.b), api.Settings{MaxSpeed: 2, MaxGap: 5})
		if showChanges(l) != c.want || e != api.OK {
			t.Errorf("Revise(%s; %s) = %s, %d; want %s", c.known, c.b, showChanges(l), e, c.want)
		}
		if !y.Equal(from(t, batch(c.known), batch(c.b))) || !x.Equal(from(t, batch(c.known))) {
			t.Errorf("behind Revise(%s; %s) the intakes are wrong", c.known, c.b)
		}
	}
}

func TestP29_7(t *testing.T) {
	size := 0
	histories(t, func(x *intake.Intake, b api.Batch, s api.Settings) {
		y, l, e := revise.Revise(x, b, s)
		all := x.Clone()
		all.Add(b)
		old, _ := reconstruct.Objects(x, s)
		now, _ := reconstruct.Objects(all, s)
		want, _ := revise.Between(old, now)
		if !y.Equal(all) || showChanges(l) != showChanges(want) || e != api.OK {
			t.Errorf("Revise(%s) = %s, %d; want %s", notation.ShowBatch(b), showChanges(l), e, showChanges(want))
		}
		size += len(l)
	})
	if size < 200 {
		t.Errorf("%d changes", size)
	}
}

// crowd returns as many reports of an object, one at each time, some of which lie beside the others.
func crowd(object, number int) []api.Report {
	var l []api.Report
	for k := range number {
		l = append(l, api.Report{Object: object, Seq: k, Time: 4 * k, Device: 1, X: k % 2})
	}
	return l
}

// fleet returns a report of each of a number of objects.
func fleet(number int) []api.Report {
	var l []api.Report
	for k := range number {
		l = append(l, api.Report{Object: k + 1})
	}
	return l
}

func TestP29_7Errors(t *testing.T) {
	s := api.Settings{MaxSpeed: 2, MaxGap: 5}
	for k, c := range []struct {
		known, b api.Batch
		affected int
		e, other api.Errno // of Revise, and of Affected
	}{
		{api.Batch{Reports: fleet(64)}, api.Batch{Reports: crowd(65, 1)}, 1, api.ErrLimit, api.OK}, {api.Batch{Reports: fleet(64)}, api.Batch{Reports: crowd(64, 1)}, 1, api.OK, api.OK}, {api.Batch{Reports: fleet(65)}, batch("65.0 v1 c"), 1, api.ErrLimit, api.OK}, {api.Batch{Reports: crowd(3, 256)}, batch("3.256 t1024"), 1, api.ErrLimit, api.OK}, {api.Batch{Reports: crowd(3, 257)}, batch("3.256 v1 c"), 1, api.ErrLimit, api.OK}, {api.Batch{Reports: crowd(3, 256)}, batch("2.256 t1024"), 1, api.OK, api.OK},
		// The errors of the batch come first.
		{api.Batch{Reports: fleet(65)}, batch("1.0 x1048577 v1, 0.1"), 0, api.ErrRange, api.ErrRange}, {api.Batch{Reports: fleet(65)}, batch("0.0"), 0, api.ErrId, api.ErrId}, {api.Batch{}, batch("1.0 | 1>1 0"), 0, api.ErrDuplicate, api.ErrDuplicate}, {api.Batch{}, api.Batch{Reports: fleet(api.MaxReports + 1)}, 0, api.ErrLimit, api.ErrLimit}, {api.Batch{Reports: fleet(1)}, api.Batch{Reports: fleet(api.MaxReports + 1)[1:]}, 0, api.ErrLimit, api.ErrLimit},
	} {
		x := from(t, c.known)
		y, l, e := revise.Revise(x, c.b, s)
		if e != c.e || (e == api.OK) != (y != nil) || e != api.OK && len(l) != 0 {
			t.Errorf("%d: Revise = %s, %d; want %d", k, showChanges(l), e, c.e)
		}
		got, e := revise.Affected(x, c.b)
		if e != c.other || len(got) != c.affected {
			t.Errorf("%d: Affected = %v, %d; want %d of them, %d", k, got, e, c.affected, c.other)
		}
		if !x.Equal(from(t, c.known)) {
			t.Errorf("%d: the intake is not the same", k)
		}
	}
}

// The clock of a device turns out to be slow, so that all parts of a trajectory are later, and cross what was there before.
func TestP29_7Limit(t *testing.T) {
	for _, c := range []struct {
		reports int
		e       api.Errno
	}{{100, api.OK}, {200, api.ErrLimit}} {
		x := from(t, api.Batch{Reports: crowd(3, c.reports), Exchanges: notation.Exchanges("0>1 0, 1>0 0")})
		y, l, e := revise.Revise(from(t, api.Batch{Reports: crowd(3, c.reports)}), notation.Batch("| 0>1 -2, 1>0 2"), api.Settings{MaxSpeed: 2, MaxGap: 5})
		if e != c.e || (e == api.OK) != (y != nil) || (e == api.OK) != (len(l) == 1) {
			t.Errorf("%d reports: Revise = %s, %d; want %d", c.reports, showChanges(l), e, c.e)
		}
		if got, e := revise.Affected(x, notation.Batch("| 0>1 -2")); !slices.Equal(got, []int{3}) || e != api.OK {
			t.Errorf("Affected = %v, %d", got, e)
		}
	}
}

func TestP29Nil(t *testing.T) {
	for _, b := range []api.Batch{{}, batch("1.0"), batch("0.0")} {
		if l, e := revise.Affected(nil, b); len(l) != 0 || e != api.ErrArgument {
			t.Errorf("Affected = %v, %d", l, e)
		}
		if x, l, e := revise.Revise(nil, b, settings[0]); x != nil || len(l) != 0 || e != api.ErrArgument {
			t.Errorf("Revise = %v, %v, %d", x, l, e)
		}
	}
}

// The changes lead from one list to the other one, and back.
func TestP29_8Back(t *testing.T) {
	same := 0
	databases(func(old, now []api.Object) {
		l, _ := revise.Between(old, now)
		if e := revise.Check(l); e != api.OK {
			t.Errorf("Check(%s) = %d", showChanges(l), e)
		}
		if got, e := revise.Apply(old, l); showObjects(got) != showObjects(now) || e != api.OK {
			t.Errorf("Apply(%s; %s) = %s, %d; want %s", showObjects(old), showChanges(l), showObjects(got), e, showObjects(now))
		}
		if got, e := revise.Apply(now, revise.Inverse(l)); showObjects(got) != showObjects(old) || e != api.OK {
			t.Errorf("Apply(%s; the inverse of %s) = %s, %d; want %s", showObjects(now), showChanges(l), showObjects(got), e, showObjects(old))
		}
		if (len(l) == 0) != (showObjects(old) == showObjects(now)) {
			t.Errorf("Between(%s; %s) = %s", showObjects(old), showObjects(now), showChanges(l))
		}
		if l, e := revise.Between(now, now); len(l) != 0 || e != api.OK {
			t.Errorf("Between(%s; the same) = %s, %d", showObjects(now), showChanges(l), e)
		}
		if len(l) == 0 {
			same++
		}
		// Nothing changes outside of the span.
		span := revise.Span(l)
		for id := range 30 {
			if during := revise.Differ(wayOf(old, id), wayOf(now, id)); !period.Covers(span, during) {
				t.Errorf("the object %d changes during %s, outside of the span %s", id, show(during), show(span))
			}
		}
	})
	if same < 10 {
		t.Errorf("%d pairs of lists are the same", same)
	}
}

// The changes of batches in any order lead to the same objects; only affected objects change, and only during the span.
func TestP29_8Batches(t *testing.T) {
	draw := draws.From(89)
	for k, history := range arrivals.Histories(draws.From(97), 150) {
		s := settings[k%len(settings)]
		want, _ := reconstruct.Objects(from(t, history...), s)
		for range 2 {
			x, now := intake.New(), []api.Object(nil)
			for _, n := range order(len(history), draw) {
				b := history[n]
				affected, _ := revise.Affected(x, b)
				y, l, e := revise.Revise(x, b, s)
				if e != api.OK {
					t.Fatalf("Revise(%s): %d", notation.ShowBatch(b), e)
				}
				for _, c := range l {
					if !slices.Contains(affected, c.Object) {
						t.Errorf("the object %d changes by %s, which affects %v", c.Object, notation.ShowBatch(b), affected)
					}
				}
				x = y
				if now, e = revise.Apply(now, l); e != api.OK {
					t.Fatalf("Apply(%s): %d", showChanges(l), e)
				}
			}
			if showObjects(now) != showObjects(want) {
				t.Errorf("the changes lead to %s; want %s", showObjects(now), showObjects(want))
			}
		}
	}
}

// order returns the numbers below n in any order.
func order(n int, draw func(below int) int) []int {
	l := make([]int, n)
	for k := range l {
		j := draw(k + 1)
		l[k], l[j] = l[j], k
	}
	return l
}

// Results share no memory with arguments, and arguments do not change.
func TestP29_8Arguments(t *testing.T) {
	const a, b = "2: [0 4] 0,1 0 | 5: [1 3] 9 9 | 6: [0 1] 3 3", "2: [0 2] 0,2 0; (2 4] 4 0 | 6: [0 1] 3 3 | 7: [1 3] 9 9"
	old, now := objects(a), objects(b)
	l, _ := revise.Between(old, now)
	want := showChanges(l)
	applied, _ := revise.Apply(old, l)
	again, _ := revise.Apply(old, l)
	inverse, again2 := revise.Inverse(l), revise.Inverse(l)
	span := revise.Span(l)
	wanted := showChanges(inverse)
	// What is cleared must not be seen anywhere else.
	for _, o := range applied {
		clear(o.Units[:cap(o.Units)])
	}
	for _, c := range inverse {
		clear(c.Retracted[:cap(c.Retracted)])
		clear(c.Asserted[:cap(c.Asserted)])
	}
	clear(span)
	clear(revise.Differ(old[0].Units, nil))
	if showObjects(old) != a || showObjects(now) != b || showChanges(l) != want || showObjects(again) != b || showChanges(again2) != wanted {
		t.Errorf("%s, %s and %s became %s, %s and %s", a, b, want, showObjects(old), showObjects(now), showChanges(l))
	}
	for _, c := range l {
		clear(c.Retracted[:cap(c.Retracted)])
		clear(c.Asserted[:cap(c.Asserted)])
	}
	if showObjects(old) != a || showObjects(now) != b || showObjects(again) != b || showChanges(again2) != wanted {
		t.Errorf("%s and %s became %s and %s", a, b, showObjects(old), showObjects(now))
	}
	const arrived = "1.3 t9, 1.0 t4, 1.3 t9 | 0>2 9, 3>1 2, 0>2 9"
	x, batch := from(t, batch("2.0")), batch(arrived)
	y, _, _ := revise.Revise(x, batch, settings[0])
	affected, _ := revise.Affected(x, batch)
	clear(affected)
	x.Add(notation.Batch("3.0"))
	if len(y.Reports()) != 3 || notation.ShowBatch(batch) != arrived {
		t.Errorf("the batch became %s, and the intake %s", notation.ShowBatch(batch), notation.ShowBatch(y.Without(nil)))
	}
	clear(batch.Reports)
	y.Add(notation.Batch("4.0"))
	if got := notation.ShowReports(x.Reports()); got != "2.0, 3.0" {
		t.Errorf("the intake became %s", got)
	}
}

// Nothing is specified for settings that are not valid; but nothing panics, and everything ends.
func TestInvalidSettings(t *testing.T) {
	x := from(t, batch("1.0, 1.1 t7 x3, 1.2 d2, 2.0 t9"+clocks))
	for _, n := range []int{0, -1, math.MinInt, math.MaxInt} {
		for _, m := range []int{0, -1, math.MinInt, math.MaxInt} {
			revise.Revise(x, batch("1.3 t8 x9, 2.0 c"), api.Settings{MaxSpeed: n, MaxGap: m})
		}
	}
}
