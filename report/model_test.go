package report_test

import (
	"slices"

	"viator/api"
	"viator/draws"
	"viator/notation"
	"viator/report"
)

// The strings of the tests are those of package notation.
var (
	reports = notation.Reports
	show    = notation.ShowReports
)

// less tells whether a report is less than another one, by the words of the chapter.
func less(a, b api.Report) bool {
	switch {
	case a.Object != b.Object:
		return a.Object < b.Object
	case a.Seq != b.Seq:
		return a.Seq < b.Seq
	case a.Version != b.Version:
		return a.Version < b.Version
	case a.Time != b.Time:
		return a.Time < b.Time
	case a.X != b.X:
		return a.X < b.X
	case a.Y != b.Y:
		return a.Y < b.Y
	case a.Device != b.Device:
		return a.Device < b.Device
	}
	return !a.Cancel && b.Cancel
}

// set returns the reports of a list in order, each once: each time the least one that is greater than the one before.
func set(l []api.Report) []api.Report {
	var list []api.Report
	for {
		var next api.Report
		found := false
		for _, r := range l {
			if (len(list) == 0 || less(list[len(list)-1], r)) && (!found || less(r, next)) {
				next, found = r, true
			}
		}
		if !found {
			return list
		}
		list = append(list, next)
	}
}

// wins tells whether a report of a list is the winner of its identity.
func wins(l []api.Report, r api.Report) bool {
	return !slices.ContainsFunc(l, func(o api.Report) bool {
		return o.Object == r.Object && o.Seq == r.Seq && less(r, o)
	})
}

// winners returns the winners of a list, and counting those of them that are not cancelled.
func winners(l []api.Report) []api.Report {
	var list []api.Report
	for _, r := range set(l) {
		if wins(l, r) {
			list = append(list, r)
		}
	}
	return list
}

func counting(l []api.Report) []api.Report {
	var list []api.Report
	for _, r := range winners(l) {
		if !r.Cancel {
			list = append(list, r)
		}
	}
	return list
}

// ids returns the ids up to 9, from -9 on, that satisfy a condition.
func ids(condition func(id int) bool) []int {
	var list []int
	for id := -9; id <= 9; id++ {
		if condition(id) {
			list = append(list, id)
		}
	}
	return list
}

// sets returns lists with up to 12 reports, of which many have the same identity or are equal.
func sets() [][]api.Report {
	draw := draws.From(1)
	all := [][]api.Report{nil, {}}
	for k := range 800 {
		var l []api.Report
		for range draw(13) {
			r := api.Report{Object: 1 + draw(3), Seq: draw(3 + k%4), Version: draw(3), Cancel: draw(4) == 0}
			for _, field := range []*int{&r.Time, &r.X, &r.Y, &r.Device} {
				*field = draw(9) / 7
			}
			if k%5 == 0 {
				r.Object, r.Seq, r.X = r.Object-2, r.Seq-2, -r.X
			}
			l = append(l, r)
			if draw(4) == 0 {
				l = append(l, l[draw(len(l))])
			}
		}
		all = append(all, l)
	}
	return all
}

// everything returns what the functions say of a list, as one list of numbers for each function.
func everything(l []api.Report) [][]api.Report {
	results := [][]api.Report{report.Set(l), report.Union(l, nil), report.Counting(l)}
	for object := -1; object <= 4; object++ {
		last, found := report.Last(l, object)
		if !found {
			last = api.Report{Object: -9}
		}
		results = append(results, report.Of(l, object), []api.Report{last}, numbers(report.Missing(l, object, 99)), numbers(report.Missing(l, object, 2)))
	}
	for _, r := range report.Set(l) {
		results = append(results, numbers([]int{report.Status(l, r)}))
	}
	return append(results, numbers(report.Objects(l)), numbers(report.Changed(l, nil)), numbers(report.Changed(nil, l)))
}

// numbers returns numbers in the place of reports.
func numbers(l []int) []api.Report {
	var list []api.Report
	for _, n := range l {
		list = append(list, api.Report{Object: n})
	}
	return list
}
