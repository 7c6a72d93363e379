package report

import (
	"slices"

	"viator/api"
)

// identity is what the versions of a report have in common.
type identity struct{ object, seq int }

func identityOf(r api.Report) identity { return identity{object: r.Object, seq: r.Seq} }

// winners returns the greatest report of each identity.
func winners(l []api.Report) map[identity]api.Report {
	greatest := map[identity]api.Report{}
	for _, r := range l {
		other, found := greatest[identityOf(r)]
		if !found || Compare(r, other) > 0 {
			greatest[identityOf(r)] = r
		}
	}
	return greatest
}

// Counting returns the reports that count, and Status says what a report is.
func Counting(l []api.Report) []api.Report {
	var list []api.Report
	for _, r := range winners(l) {
		if !r.Cancel {
			list = append(list, r)
		}
	}
	slices.SortFunc(list, Compare)
	return list
}

func Status(l []api.Report, r api.Report) int {
	switch {
	case !Contains(l, r):
		return Absent
	case winners(l)[identityOf(r)] != r:
		return Superseded
	case r.Cancel:
		return Withdrawn
	}
	return Counts
}

// Objects returns the ids of the objects, Of the counting reports of an object, and Last the one of them with the greatest Seq.
func Objects(l []api.Report) []int { return objectsOf(Counting(l)) }

// objectsOf returns the objects of some reports.
func objectsOf(l []api.Report) []int {
	var ids []int
	for _, r := range l {
		ids = append(ids, r.Object)
	}
	slices.Sort(ids)
	return slices.Compact(ids)
}

func Of(l []api.Report, object int) []api.Report { return Counting(about(l, object)) }

// about returns the reports about an object, whether they count or not.
func about(l []api.Report, object int) []api.Report {
	return slices.DeleteFunc(slices.Clone(l), func(r api.Report) bool { return r.Object != object })
}

func Last(l []api.Report, object int) (api.Report, bool) {
	list := Of(l, object)
	if len(list) == 0 {
		return api.Report{}, false
	}
	return list[len(list)-1], true
}

// Missing returns the numbers that are missing before the greatest Seq of an object, and Changed the objects whose counting reports differ in two lists.
func Missing(l []api.Report, object, most int) []int {
	var list []int
	last := -1 // the greatest Seq up to which the missing numbers are listed
	for _, r := range Set(about(l, object)) {
		for n := last + 1; n < r.Seq && len(list) < most; n++ {
			list = append(list, n)
		}
		last = max(last, r.Seq)
	}
	return list
}

func Changed(old, now []api.Report) []int {
	before, after := Counting(old), Counting(now)
	return objectsOf(slices.Concat(without(before, after), without(after, before)))
}

// without returns the reports of a list that another list, which is in order, does not have.
func without(l, other []api.Report) []api.Report {
	return slices.DeleteFunc(slices.Clone(l), func(r api.Report) bool {
		_, found := slices.BinarySearchFunc(other, r, Compare)
		return found
	})
}
