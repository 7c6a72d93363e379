package clock

import (
	"slices"

	"viator/api"
	"viator/rational"
)

// Bounds are the least and the greatest offset that a clock can have.
type Bounds struct{ Low, High int }

// Middle returns the middle of bounds.
func Middle(b Bounds) api.Rat {
	middle, _ := rational.FromInts(b.Low+b.High, 2)
	return middle
}

// Offset returns the bounds of the offset of a device.
func Offset(l []api.Exchange, device int) (Bounds, api.Errno) {
	up, down, e := Chains(l, device)
	if e != api.OK {
		return Bounds{}, e
	}
	high, _ := Sum(l, up, 0, device)
	low, _ := Sum(l, down, device, 0)
	return Bounds{Low: -low, High: high}, api.OK
}

// Chains returns the exchanges that prove the upper and the lower bound of the offset of a device.
func Chains(l []api.Exchange, device int) (up, down []int, e api.Errno) {
	switch {
	case device < 0 || device > api.MaxId:
		return nil, nil, api.ErrId
	case len(l) > api.MaxReports:
		return nil, nil, api.ErrLimit
	}
	devices := Component(l, device)
	if device == 0 || len(devices) == 1 {
		return nil, nil, api.OK
	}
	if _, found := Cycle(l, device); found {
		return nil, nil, api.ErrInfeasible
	}
	if !slices.Contains(devices, 0) {
		return nil, nil, api.ErrUnreachable
	}
	up, leads := shortest(l, devices, device)
	// A chain to 0 is a chain from 0 along the exchanges in the opposite direction, from its end to its beginning.
	down, returns := shortest(opposite(l), devices, device)
	if !leads || !returns {
		return nil, nil, api.ErrUnreachable
	}
	slices.Reverse(down)
	return up, down, api.OK
}

// opposite returns the exchanges of a list with their devices the other way round.
func opposite(l []api.Exchange) []api.Exchange {
	list := slices.Clone(l)
	for k := range list {
		list[k].From, list[k].To = list[k].To, list[k].From
	}
	return list
}

// shortest returns a chain with the least sum from 0 to another device of a component without a contradiction, and whether there is one.
func shortest(l []api.Exchange, devices []int, device int) ([]int, bool) {
	s := newSearch(l, devices)
	s.relax([]int{0})
	if _, found := s.sums[device]; !found {
		return nil, false
	}
	return s.back(device, 0), true
}

// Cycle returns exchanges that contradict one another.
func Cycle(l []api.Exchange, device int) ([]int, bool) {
	if len(l) > api.MaxReports {
		return nil, false
	}
	devices := Component(l, device)
	s := newSearch(l, devices)
	late := s.relax(devices)
	if len(late) == 0 {
		return nil, false
	}
	// A sum that became less in the last one of as many rounds as there are devices belongs to a chain of at least as many exchanges: the way back along it comes to a circle, which is a contradiction.
	d := late[0]
	for range devices {
		d = s.before(d)
	}
	return s.back(d, d), true
}
