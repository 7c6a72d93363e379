package belief

import (
	"maps"
	"slices"

	"viator/api"
	"viator/intake"
	"viator/movingpoint"
	"viator/reconstruct"
)

// Entry is a belief with which the position of an object at an instant changes, and the position, if there is one.
type Entry struct {
	Belief  int
	Defined bool
	P       api.Point
}

// AsOf returns the intake of a belief, Objects its objects, and Trajectory the trajectory of one of them.
func (l *Log) AsOf(n int) (*intake.Intake, api.Errno) {
	if l == nil {
		return nil, api.ErrArgument
	}
	for k, x := range l.beliefs() {
		if k == n {
			return x, api.OK
		}
	}
	return nil, api.ErrBelief
}

func (l *Log) Objects(n int) ([]api.Object, api.Errno) {
	x, e := l.AsOf(n)
	if e != api.OK {
		return nil, e
	}
	return reconstruct.Objects(x, l.settings)
}

func (l *Log) Trajectory(n, object int) ([]api.PointUnit, api.Errno) {
	x, e := l.AsOf(n)
	if e != api.OK {
		return nil, e
	}
	return reconstruct.Trajectory(x, object, l.settings)
}

// Changed returns the objects whose trajectories differ between two beliefs, and History the beliefs with which the position of an object at an instant changes.
func (l *Log) Changed(a, b int) ([]int, api.Errno) {
	x, e := l.AsOf(a)
	if e != api.OK {
		return nil, e
	}
	y, e := l.AsOf(b)
	if e != api.OK {
		return nil, e
	}
	differing := map[int]bool{} // of all objects
	for _, id := range append(x.Objects(), y.Objects()...) {
		differing[id] = false
	}
	for _, id := range slices.Sorted(maps.Keys(differing)) {
		old, e := reconstruct.Trajectory(x, id, l.settings)
		if e != api.OK {
			return nil, e
		}
		now, e := reconstruct.Trajectory(y, id, l.settings)
		if e != api.OK {
			return nil, e
		}
		differing[id] = !movingpoint.Same(old, now)
	}
	maps.DeleteFunc(differing, func(id int, differs bool) bool { return !differs })
	return slices.Sorted(maps.Keys(differing)), api.OK
}

func (l *Log) History(object int, t api.Rat) ([]Entry, api.Errno) {
	if l == nil {
		return nil, api.ErrArgument
	}
	var history []Entry
	var before Entry
	for n, x := range l.beliefs() {
		way, e := reconstruct.Trajectory(x, object, l.settings)
		if e != api.OK {
			return nil, e
		}
		now := Entry{Belief: n}
		now.P, now.Defined = movingpoint.AtRat(way, t)
		if now.Defined != before.Defined || now.P != before.P {
			history = append(history, now)
		}
		before = now
	}
	return history, api.OK
}
