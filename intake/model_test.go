package intake_test

import (
	"slices"
	"testing"

	"viator/api"
	"viator/clock"
	"viator/draws"
	"viator/intake"
	"viator/notation"
	"viator/rational"
	"viator/report"
)

// The strings of the tests are those of package notation.
var (
	rat       = notation.Rat
	batch     = notation.Batch
	show      = notation.ShowBatch
	showTimed = notation.ShowTimed
)

// of returns an intake to which batches were added, one after another.
func of(t *testing.T, l ...api.Batch) *intake.Intake {
	t.Helper()
	x := intake.New()
	for _, b := range l {
		if _, e := x.Add(b); e != api.OK {
			t.Fatalf("the error of %s is %d", show(b), e)
		}
	}
	return x
}

// from returns an intake of a string.
func from(t *testing.T, s string) *intake.Intake {
	t.Helper()
	return of(t, batch(s))
}

// join returns what is in some batches, as often as it is there.
func join(l ...api.Batch) api.Batch {
	var all api.Batch
	for _, b := range l {
		all.Reports = append(all.Reports, b.Reports...)
		all.Exchanges = append(all.Exchanges, b.Exchanges...)
	}
	return all
}

// The following functions tell by the words of the chapter what an intake says to which a batch was added.

// less tells whether an exchange is less than another one.
func less(a, b api.Exchange) bool {
	switch {
	case a.From != b.From:
		return a.From < b.From
	case a.To != b.To:
		return a.To < b.To
	case a.Sent != b.Sent:
		return a.Sent < b.Sent
	case a.Received != b.Received:
		return a.Received < b.Received
	}
	return a.Least < b.Least
}

// exchanges returns the exchanges in order, each once.
func exchanges(l []api.Exchange) []api.Exchange {
	var list []api.Exchange
	for _, x := range l {
		k := 0
		for k < len(list) && less(list[k], x) {
			k++
		}
		if k == len(list) || list[k] != x {
			list = slices.Insert(list, k, x)
		}
	}
	return list
}

// set returns what is in a batch in order, each once, and without what is in it, but not in another one.
func set(b api.Batch) api.Batch {
	return api.Batch{Reports: report.Set(b.Reports), Exchanges: exchanges(b.Exchanges)}
}

func without(b, other api.Batch) api.Batch {
	b = set(b)
	b.Reports = slices.DeleteFunc(b.Reports, func(r api.Report) bool { return slices.Contains(other.Reports, r) })
	b.Exchanges = slices.DeleteFunc(b.Exchanges, func(x api.Exchange) bool { return slices.Contains(other.Exchanges, x) })
	return b
}

// size returns how many reports and exchanges a batch has.
func size(b api.Batch) int { return len(b.Reports) + len(b.Exchanges) }

// timed returns the counting reports of an object that have a time, and untimed the others.
func timed(b api.Batch, object int) []intake.Timed {
	var list []intake.Timed
	for _, r := range report.Of(b.Reports, object) {
		t, e := clock.Correct(b.Exchanges, r)
		if e != api.OK {
			continue
		}
		k := 0
		for k < len(list) && (rational.Compare(list[k].T, t) < 0 || list[k].T == t && list[k].Report.Seq < r.Seq) {
			k++
		}
		list = slices.Insert(list, k, intake.Timed{T: t, Report: r})
	}
	return list
}

func untimed(b api.Batch, object int) []api.Report {
	var list []api.Report
	for _, r := range report.Of(b.Reports, object) {
		if _, e := clock.Correct(b.Exchanges, r); e != api.OK {
			list = append(list, r)
		}
	}
	return list
}

// complete returns the number up to which an object is complete.
func complete(b api.Batch, object int) (int, bool) {
	n := 0
	for slices.ContainsFunc(b.Reports, func(r api.Report) bool { return r.Object == object && r.Seq == n }) {
		n++
	}
	if n == 0 {
		return 0, false
	}
	return n - 1, true
}

// pending returns the reports with a time behind the number up to which an object is complete.
func pending(b api.Batch, object int) []intake.Timed {
	var list []intake.Timed
	n, found := complete(b, object)
	for _, r := range timed(b, object) {
		if !found || r.Report.Seq > n {
			list = append(list, r)
		}
	}
	return list
}

// frontier returns the frontier of an object, and watermark the watermark.
func frontier(b api.Batch, object int) (api.Rat, bool) {
	var latest api.Rat
	found := false
	for _, r := range timed(b, object) {
		if n, is := complete(b, object); is && r.Report.Seq <= n && (!found || rational.Compare(latest, r.T) < 0) {
			latest, found = r.T, true
		}
	}
	return latest, found
}

func watermark(b api.Batch) (api.Rat, bool) {
	var least api.Rat
	for k, r := range b.Reports {
		t, found := frontier(b, r.Object)
		if !found {
			return api.Rat{}, false
		}
		if k == 0 || rational.Compare(t, least) < 0 {
			least = t
		}
	}
	return least, len(b.Reports) > 0
}

// objects are those of the batches that histories returns, and others.
var objects = []int{1, 2, 3, 4, 0, -1, 1 << 30}

// histories returns lists of up to 4 batches. The clocks of the devices 1 to 3 have offsets in most of them; in the others, many exchanges contradict one another.
func histories() [][]api.Batch {
	draw := draws.From(13)
	var all [][]api.Batch
	for k := range 600 {
		offsets := [4]int{0, draw(6), draw(6), draw(6)}
		several := 1 + draw(3)
		var history []api.Batch
		for range 1 + draw(4) {
			var b api.Batch
			for range draw(6) {
				r := api.Report{Object: 1 + draw(several), Seq: draw(4), Version: draw(2), Time: 10 + draw(8), X: draw(2), Device: draw(4) * draw(2), Cancel: draw(5) == 0}
				b.Reports = append(b.Reports, r)
			}
			for range draw(6) * min(k%5, 1) {
				from := draw(4)
				to := (from + 1 + draw(3)) % 4
				x := api.Exchange{From: from, To: to, Sent: 20 + draw(2), Least: draw(2)}
				x.Received = offsets[to] - offsets[from] + draw(3) + x.Sent + x.Least
				if k%5 == 4 {
					x.Received -= 2
				}
				b.Exchanges = append(b.Exchanges, x)
			}
			history = append(history, b)
		}
		all = append(all, history)
	}
	return all
}

// each calls a function with an intake behind each batch of the histories, and all that was added to it until then.
func each(t *testing.T, f func(x *intake.Intake, all api.Batch)) {
	t.Helper()
	for _, history := range histories() {
		x := intake.New()
		for k, b := range history {
			if _, e := x.Add(b); e != api.OK {
				t.Fatalf("the error of %s is %d", show(b), e)
			}
			f(x, join(history[:k+1]...))
		}
	}
}
