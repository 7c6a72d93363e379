package envelope

import (
	"viator/api"
	"viator/movinglabel"
	"viator/period"
)

// Rank returns the number of the place of a curve, Among the period during which it is one of the n least ones, and Count how many curves there are.
func Rank(l []Curve, id int) ([]api.LabelUnit, api.Errno) {
	curve, found := byId(l)[id]
	if !found {
		return nil, api.ErrNotFound
	}
	periods := domains([]Curve{curve})
	for _, c := range l {
		if c.Id != id {
			periods = append(periods, before(c, curve))
		}
	}
	// Each of the periods but the first one is within it.
	return movinglabel.Map(tally(periods), func(count int) int { return count - 1 }), api.OK
}

// byId returns curves by their ids.
func byId(l []Curve) map[int]Curve {
	curves := map[int]Curve{}
	for _, c := range l {
		curves[c.Id] = c
	}
	return curves
}

// tally returns how many of some periods contain an instant, where at least one does.
func tally(periods [][]api.Interval) []api.LabelUnit {
	var counts []api.LabelUnit
	for in, lasts := range spans(periods) {
		count := 0
		for _, is := range lasts {
			if is {
				count++
			}
		}
		counts = append(counts, api.LabelUnit{In: in, Label: count})
	}
	normal, _ := movinglabel.Normal(counts)
	return normal
}

func Among(l []Curve, id, n int) ([]api.Interval, api.Errno) {
	rank, e := Rank(l, id)
	switch {
	case e != api.OK:
		return nil, e
	case n < 0:
		return nil, api.ErrRange
	}
	var list []api.Interval
	for _, u := range rank {
		if u.Label < n {
			list = append(list, u.In)
		}
	}
	return period.Normal(list), api.OK
}

func Count(l []Curve) []api.LabelUnit { return tally(domains(l)) }
