package intake

import (
	"cmp"
	"slices"

	"viator/api"
	"viator/clock"
	"viator/rational"
	"viator/report"
)

// timer tells the time of a report by the clock of the server.
type timer func(r api.Report) (api.Rat, api.Errno)

// newTimer returns a timer for the exchanges of an intake, which looks for the offset of each device only once.
func newTimer(exchanges []api.Exchange) timer {
	type start struct {
		t api.Rat // when the clock of the device showed zero
		e api.Errno
	}
	starts := map[int]start{}
	return func(r api.Report) (api.Rat, api.Errno) {
		s, found := starts[r.Device]
		if !found {
			s.t, s.e = clock.Correct(exchanges, api.Report{Device: r.Device})
			starts[r.Device] = s
		}
		if s.e != api.OK {
			return api.Rat{}, s.e
		}
		return rational.Add(s.t, rational.FromInt(r.Time)), api.OK
	}
}

// divide divides reports into those that have a time and those that have none.
func divide(l []api.Report, time timer) (timed []Timed, untimed []api.Report) {
	for _, r := range l {
		t, e := time(r)
		if e != api.OK {
			untimed = append(untimed, r)
		} else {
			timed = append(timed, Timed{T: t, Report: r})
		}
	}
	slices.SortFunc(timed, func(a, b Timed) int {
		return cmp.Or(rational.Compare(a.T, b.T), cmp.Compare(a.Report.Seq, b.Report.Seq))
	})
	return timed, untimed
}

// Objects returns the objects that have reports that count, Of these reports with their times, and Untimed those whose times are not known.
func (x *Intake) Objects() []int { return report.Objects(x.Reports()) }

func (x *Intake) Of(object int) []Timed {
	timed, _ := divide(report.Counting(x.about(object)), newTimer(x.Exchanges()))
	return timed
}

func (x *Intake) Untimed(object int) []api.Report {
	_, untimed := divide(report.Counting(x.about(object)), newTimer(x.Exchanges()))
	return untimed
}

// about returns the reports of an object, whether they count or not, in any order.
func (x *Intake) about(object int) []api.Report {
	if x == nil {
		return nil
	}
	var l []api.Report
	for r := range x.reports {
		if r.Object == object {
			l = append(l, r)
		}
	}
	return l
}

// Complete returns the number up to which no report of an object is missing, and Pending what has arrived behind a gap.
func (x *Intake) Complete(object int) (int, bool) { return complete(x.about(object)) }

// complete returns the number up to which the reports of an object have every Seq.
func complete(l []api.Report) (int, bool) {
	seqs := map[int]bool{}
	for _, r := range l {
		seqs[r.Seq] = true
	}
	if !seqs[0] {
		return 0, false
	}
	last := 0
	for seqs[last+1] {
		last++
	}
	return last, true
}

func (x *Intake) Pending(object int) []Timed {
	last, found := x.Complete(object)
	return slices.DeleteFunc(x.Of(object), func(t Timed) bool { return found && t.Report.Seq <= last })
}

// Frontier returns the time up to which an object is complete, Watermark that up to which all are, and Late whether a report is behind it.
func (x *Intake) Frontier(object int) (api.Rat, bool) {
	return frontier(x.about(object), newTimer(x.Exchanges()))
}

// frontier returns the frontier of the object of some reports, which are all that it has.
func frontier(l []api.Report, time timer) (api.Rat, bool) {
	last, found := complete(l)
	if !found {
		return api.Rat{}, false
	}
	timed, _ := divide(report.Counting(l), time)
	timed = slices.DeleteFunc(timed, func(t Timed) bool { return t.Report.Seq > last })
	if len(timed) == 0 {
		return api.Rat{}, false
	}
	return timed[len(timed)-1].T, true
}

func (x *Intake) Watermark() (api.Rat, bool) {
	objects := map[int][]api.Report{}
	for _, r := range x.Reports() {
		objects[r.Object] = append(objects[r.Object], r)
	}
	time := newTimer(x.Exchanges())
	var frontiers []api.Rat
	for _, l := range objects {
		t, found := frontier(l, time)
		if !found {
			return api.Rat{}, false
		}
		frontiers = append(frontiers, t)
	}
	if len(frontiers) == 0 {
		return api.Rat{}, false
	}
	return slices.MinFunc(frontiers, rational.Compare), true
}

func (x *Intake) Late(r api.Report) (bool, api.Errno) {
	if x == nil {
		return false, api.ErrArgument
	}
	if e := report.Check(r); e != api.OK {
		return false, e
	}
	time := newTimer(x.Exchanges())
	t, e := time(r)
	if e != api.OK {
		return false, e
	}
	last, found := frontier(x.about(r.Object), time)
	return found && rational.Compare(t, last) <= 0, api.OK
}
