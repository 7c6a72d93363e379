package belief_test

import (
	"slices"
	"strconv"
	"strings"
	"testing"

	"viator/api"
	"viator/arrivals"
	"viator/belief"
	"viator/draws"
	"viator/intake"
	"viator/lists"
	"viator/movingpoint"
	"viator/notation"
	"viator/rational"
	"viator/reconstruct"
)

// The strings of the tests are those of package notation.
var (
	rat       = notation.Rat
	batch     = notation.Batch
	showBatch = notation.ShowBatch
	showUnits = notation.ShowPointUnits
)

// usual are settings with which few reports do not fit the others.
var usual = api.Settings{MaxSpeed: 10, MaxGap: 10}

// settings are some that are valid.
var settings = []api.Settings{usual, {MaxSpeed: 1, MaxGap: 4}, {MaxSpeed: 2, MaxGap: 7}, {MaxSpeed: 3, MaxGap: 100}}

// logOf returns a log with batches.
func logOf(t *testing.T, s api.Settings, history ...api.Batch) *belief.Log {
	t.Helper()
	l, e := belief.New(s)
	if e != api.OK {
		t.Fatalf("New: %d", e)
	}
	for k, b := range history {
		if n, e := l.Add(b); n != k+1 || e != api.OK {
			t.Fatalf("Add(%s) = %d, %d", showBatch(b), n, e)
		}
	}
	return l
}

// batches returns the batches of strings.
func batches(l ...string) []api.Batch { return lists.Convert(l, batch) }

// known returns the intake to which the first n batches were added.
func known(t *testing.T, history []api.Batch, n int) *intake.Intake {
	t.Helper()
	x := intake.New()
	for _, b := range history[:n] {
		if _, e := x.Add(b); e != api.OK {
			t.Fatalf("the error of %s is %d", showBatch(b), e)
		}
	}
	return x
}

// logs calls a function with logs, their batches, their settings and their horizon.
func logs(t *testing.T, number int, f func(l *belief.Log, history []api.Batch, s api.Settings, horizon int)) {
	t.Helper()
	draw := draws.From(107)
	for k, history := range arrivals.Histories(draws.From(109), number) {
		s := settings[k%len(settings)]
		l, horizon := logOf(t, s, history...), draw(2)*draw(len(history)+1)
		if e := l.Forget(horizon); e != api.OK {
			t.Fatalf("Forget(%d) = %d", horizon, e)
		}
		f(l, history, s, horizon)
	}
}

// history returns by the words of the chapter the history of a position in the beliefs from the horizon on.
func history(t *testing.T, all []api.Batch, s api.Settings, horizon, object int, at api.Rat) []belief.Entry {
	t.Helper()
	var entries []belief.Entry
	for n := horizon; n <= len(all); n++ {
		way, _ := reconstruct.Trajectory(known(t, all, n), object, s)
		p, defined := movingpoint.AtRat(way, at)
		if n > horizon {
			earlier, _ := reconstruct.Trajectory(known(t, all, n-1), object, s)
			if q, was := movingpoint.AtRat(earlier, at); was == defined && q == p {
				continue
			}
		} else if !defined {
			continue
		}
		entries = append(entries, belief.Entry{Belief: n, Defined: defined, P: p})
	}
	return entries
}

// showEntries returns a string like "2: 1,1/2; 3: nowhere".
func showEntries(l []belief.Entry) string {
	return strings.Join(lists.Convert(l, func(x belief.Entry) string {
		if !x.Defined && x.P == (api.Point{}) {
			return strconv.Itoa(x.Belief) + ": nowhere"
		}
		return strconv.Itoa(x.Belief) + ": " + notation.ShowPair(x.P.X, x.P.Y)
	}), "; ")
}

func showObjects(l []api.Object) string {
	return strings.Join(lists.Convert(l, func(o api.Object) string { return strconv.Itoa(o.Id) + ": " + showUnits(o.Units) }), " | ")
}

// says returns all that a log says.
func says(l *belief.Log) string {
	parts := []string{strconv.Itoa(l.Horizon()), strconv.Itoa(l.Last())}
	number := func(e api.Errno) string { return strconv.Itoa(int(e)) }
	for n := -1; n <= l.Last()+1; n++ {
		b, e := l.Batch(n)
		parts = append(parts, showBatch(b), number(e))
		x, e := l.AsOf(n)
		parts = append(parts, showBatch(x.Without(nil)), number(e))
		objects, e := l.Objects(n)
		parts = append(parts, showObjects(objects), number(e))
		changed, e := l.Changed(n-1, n)
		parts = append(parts, lists.Convert(changed, strconv.Itoa)...)
		parts = append(parts, number(e))
	}
	for id := range 5 {
		for _, at := range []string{"4", "37/2"} {
			h, e := l.History(id, rat(at))
			parts = append(parts, showEntries(h), number(e))
		}
	}
	return strings.Join(parts, "\n")
}

// crowd returns as many reports of an object that count and have a time.
func crowd(object, number int) []api.Report {
	var l []api.Report
	for k := range number {
		l = append(l, api.Report{Object: object, Seq: k, Time: k})
	}
	return l
}

// join returns what is in some batches.
func join(l ...api.Batch) api.Batch {
	var all api.Batch
	for _, b := range l {
		all.Reports = append(all.Reports, b.Reports...)
		all.Exchanges = append(all.Exchanges, b.Exchanges...)
	}
	return all
}

// shuffled returns the elements of a list in another order.
func shuffled[A any](l []A, draw func(below int) int) []A {
	l = slices.Clone(l)
	for k := range l {
		j := draw(k + 1)
		l[k], l[j] = l[j], l[k]
	}
	return l
}

// times are instants at which positions are compared.
func times() []api.Rat {
	return lists.Convert(strings.Fields("4 10 27/2 17 50/3 23 31 1000"), rat)
}

// printed returns a fraction as a string.
var printed = rational.Print
