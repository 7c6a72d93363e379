package revise

import (
	"slices"

	"viator/api"
	"viator/intake"
	"viator/reconstruct"
)

// Affected returns the objects whose reports with times a batch changes, and Revise the intake with a batch, and the changes of the trajectories.
func Affected(x *intake.Intake, b api.Batch) ([]int, api.Errno) {
	now, e := with(x, b)
	if e != api.OK {
		return nil, e
	}
	var affected []int
	for _, id := range concerned(x, now, b) {
		if !slices.Equal(x.Of(id), now.Of(id)) {
			affected = append(affected, id)
		}
	}
	return affected, api.OK
}

// with returns an intake to which a batch is added; the error of one that is nil is that of Add.
func with(x *intake.Intake, b api.Batch) (*intake.Intake, api.Errno) {
	now := x.Clone()
	if _, e := now.Add(b); e != api.OK {
		return nil, e
	}
	return now, api.OK
}

// concerned returns the objects that a batch can affect, in order: those of its reports, or all of them if there are messages, which can change the time of any report.
func concerned(x, now *intake.Intake, b api.Batch) []int {
	var ids []int
	if len(b.Exchanges) > 0 {
		ids = append(x.Objects(), now.Objects()...)
	}
	for _, r := range b.Reports {
		ids = append(ids, r.Object)
	}
	slices.Sort(ids)
	return slices.Compact(ids)
}

func Revise(x *intake.Intake, b api.Batch, s api.Settings) (*intake.Intake, []Change, api.Errno) {
	now, e := with(x, b)
	if e != api.OK {
		return nil, nil, e
	}
	old, e := reconstruct.Objects(x, s)
	if e != api.OK {
		return nil, nil, e
	}
	objects, e := reconstruct.Objects(now, s)
	if e != api.OK {
		return nil, nil, e
	}
	l, e := Between(old, objects)
	if e != api.OK {
		return nil, nil, e
	}
	return now, l, api.OK
}
