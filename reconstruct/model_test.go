package reconstruct_test

import (
	"slices"
	"testing"

	"viator/api"
	"viator/draws"
	"viator/intake"
	"viator/integer"
	"viator/notation"
	"viator/rational"
	"viator/reconstruct"
	"viator/report"
)

// The strings of the tests are those of package notation.
var (
	rat       = notation.Rat
	batch     = notation.Batch
	one       = notation.Report
	timed     = notation.Timed
	showTimed = notation.ShowTimed
	showUnits = notation.ShowPointUnits
)

// from returns an intake to which batches were added, one after another.
func from(t *testing.T, l ...api.Batch) *intake.Intake {
	t.Helper()
	x := intake.New()
	for _, b := range l {
		if _, e := x.Add(b); e != api.OK {
			t.Fatalf("the error of %s is %d", notation.ShowBatch(b), e)
		}
	}
	return x
}

// twelfths returns a time as a number of twelfths; the times of the lists that are compared with the words of the chapter are whole numbers of them.
func twelfths(t *testing.T, r api.Rat) int {
	t.Helper()
	r = rational.Mul(r, rational.FromInt(12))
	n, small := integer.ToInt(r.Num)
	if !small || r != rational.FromInt(n) {
		t.Fatalf("%s is no number of twelfths", rational.Print(r))
	}
	return n
}

// compatible tells by the words of the chapter whether a report can be followed by another one.
func compatible(t *testing.T, a, b intake.Timed, s api.Settings) bool {
	t.Helper()
	dx, dy := b.Report.X-a.Report.X, b.Report.Y-a.Report.Y
	duration := twelfths(t, b.T) - twelfths(t, a.T)
	way := s.MaxSpeed * duration // in twelfths of a unit of length
	return duration > 0 && 144*(dx*dx+dy*dy) <= way*way
}

// chain returns the chain of a list: of all lists of indices that are chains, the longest one, and of these the least one.
func chain(t *testing.T, l []intake.Timed, s api.Settings) []int {
	t.Helper()
	follows := make([][]bool, len(l))
	for i := range l {
		for j := range l {
			follows[i] = append(follows[i], compatible(t, l[i], l[j], s))
		}
	}
	var best []int
	for set := range 1 << len(l) {
		var list []int
		for k := range l {
			if set>>k&1 == 1 {
				list = append(list, k)
			}
		}
		valid := true
		for k := range max(len(list)-1, 0) {
			valid = valid && follows[list[k]][list[k+1]]
		}
		if valid && (len(list) > len(best) || len(list) == len(best) && slices.Compare(list, best) < 0) {
			best = list
		}
	}
	return best
}

// walks returns lists of up to 9 reports of the object 1 in the order of their times, some of which are the same. Many reports are wrong.
func walks() [][]intake.Timed {
	draw := draws.From(23)
	all := [][]intake.Timed{nil, {}}
	for k := range 500 {
		var l []intake.Timed
		n, place := draw(30), [2]int{}
		for seq := range 1 + draw(9) {
			r := api.Report{Object: 1, Seq: seq, X: place[0], Y: place[1]}
			if draw(4) == 0 {
				r.X, r.Y = r.X+draw(15)-7, r.Y+draw(15)-7
			}
			at, _ := rational.FromInts(n, []int{1, 2, 3, 4}[k%4])
			l = append(l, intake.Timed{T: at, Report: r})
			step := draw(4) * draw(3)
			n += step
			place[k%2] += draw(2*step+1) - step
		}
		all = append(all, l)
	}
	return all
}

// arrivals returns batches with up to 16 reports of the objects 1 to 3. In most of them the bounds of the offset of the device 1 are not equal, and the device 2 has none.
func arrivals() []api.Batch {
	draw := draws.From(29)
	var all []api.Batch
	for k := range 300 {
		var b api.Batch
		for range draw(17) {
			r := api.Report{Object: 1 + draw(3), Seq: draw(9), Time: 10 + draw(20), X: draw(12), Y: draw(3), Device: draw(2), Cancel: draw(8) == 0}
			if draw(6) == 0 {
				r.Version, r.Device = 1, 2
			}
			b.Reports = append(b.Reports, r)
		}
		if k%3 > 0 {
			b.Exchanges = []api.Exchange{{From: 0, To: 1, Received: 5 + draw(3)}, {From: 1, To: 0, Sent: 5 - draw(3)}, {From: 0, To: 2, Received: 1}}
		}
		all = append(all, b)
	}
	return all
}

// settings are some that are valid.
var settings = []api.Settings{{MaxSpeed: 1, MaxGap: 1}, {MaxSpeed: 1, MaxGap: 4}, {MaxSpeed: 2, MaxGap: 3}, {MaxSpeed: 3, MaxGap: 100}, {MaxSpeed: 1 << 20, MaxGap: 1 << 30}}

// each calls a function with intakes, objects and settings.
func each(t *testing.T, f func(x *intake.Intake, object int, s api.Settings)) {
	t.Helper()
	for k, b := range arrivals() {
		x := from(t, b)
		for id := range 5 {
			f(x, id, settings[k%len(settings)])
		}
	}
}

// crowd returns an intake in which the object 1 has a number of counting reports with a time, and others besides.
func crowd(t *testing.T, number int) *intake.Intake {
	t.Helper()
	b := batch("1.9000 d2, 1.9001 d2, 1.9002 c, 2.0 | 0>2 5")
	for k := range number {
		r := api.Report{Object: 1, Seq: k, Version: 1, Time: k}
		old := r
		old.Version = 0
		b.Reports = append(b.Reports, r, old)
	}
	return from(t, b)
}

// kept returns the reports that the trajectory of an object passes through.
func kept(t *testing.T, x *intake.Intake, object int, s api.Settings) []intake.Timed {
	t.Helper()
	l := x.Of(object)
	var list []intake.Timed
	for _, k := range chain(t, l, s) {
		list = append(list, l[k])
	}
	return list
}

// becomes tells what becomes of a report.
func becomes(t *testing.T, x *intake.Intake, r api.Report, s api.Settings) int {
	t.Helper()
	isSame := func(o intake.Timed) bool { return o.Report == r }
	switch report.Status(x.Reports(), r) {
	case report.Absent:
		return reconstruct.Absent
	case report.Superseded:
		return reconstruct.Superseded
	case report.Withdrawn:
		return reconstruct.Withdrawn
	}
	switch {
	case !slices.ContainsFunc(x.Of(r.Object), isSame):
		return reconstruct.Untimed
	case slices.ContainsFunc(kept(t, x, r.Object, s), isSame):
		return reconstruct.Kept
	}
	return reconstruct.Skipped
}
