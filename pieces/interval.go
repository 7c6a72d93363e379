package pieces

import (
	"viator/api"
	"viator/real"
)

func isInstant(in api.Interval) bool { return in.From == in.To }

// follows tells whether an interval begins after another one has ended: they have no instant in common, and it is not the earlier one.
func follows(earlier, in api.Interval) bool {
	order := real.Compare(earlier.To, in.From)
	return order < 0 || order == 0 && (earlier.OpenTo || in.OpenFrom)
}

// place returns 0 if an interval contains an instant, and otherwise -1 or 1 as the interval is before or behind the instant.
func place(in api.Interval, t api.Real) int {
	instant := api.Interval{From: t, To: t}
	switch {
	case follows(in, instant):
		return -1
	case follows(instant, in):
		return 1
	}
	return 0
}

// compareBegins returns -1, 0 or 1 as an interval begins before another one, with it, or after it, and compareEnds as it ends. An interval without its first instant begins after one with it.
func compareBegins(a, b api.Interval) int {
	order := real.Compare(a.From, b.From)
	switch {
	case order != 0 || a.OpenFrom == b.OpenFrom:
		return order
	case b.OpenFrom:
		return -1
	}
	return 1
}

func compareEnds(a, b api.Interval) int {
	order := real.Compare(a.To, b.To)
	switch {
	case order != 0 || a.OpenTo == b.OpenTo:
		return order
	case a.OpenTo:
		return -1
	}
	return 1
}

// common returns the instants that two intervals have in common, and whether there are any.
func common(a, b api.Interval) (api.Interval, bool) {
	if follows(a, b) || follows(b, a) {
		return api.Interval{}, false
	}
	in := a
	if compareBegins(a, b) < 0 {
		in.From, in.OpenFrom = b.From, b.OpenFrom
	}
	if compareEnds(a, b) > 0 {
		in.To, in.OpenTo = b.To, b.OpenTo
	}
	return in, true
}
