package movingbool

import (
	"viator/api"
	"viator/period"
)

// Not, And, Or and Differ are the lifted operations; Either is defined as soon as one of both is enough.
func Not(b api.Bool) api.Bool {
	return api.Bool{Domain: period.Normal(b.Domain), True: False(b)}
}

func And(a, b api.Bool) api.Bool { return lift(a, b, period.Intersect) }

func Or(a, b api.Bool) api.Bool { return lift(a, b, period.Union) }

func Differ(a, b api.Bool) api.Bool {
	return lift(a, b, func(x, y []api.Interval) []api.Interval {
		return period.Union(period.Minus(x, y), period.Minus(y, x))
	})
}

// lift returns a lifted operation, given the instants at which it is true by those at which its arguments are.
func lift(a, b api.Bool, operation func(x, y []api.Interval) []api.Interval) api.Bool {
	domain := period.Intersect(a.Domain, b.Domain)
	return api.Bool{Domain: domain, True: period.Intersect(domain, operation(a.True, b.True))}
}

func Either(a, b api.Bool) api.Bool {
	either := period.Union(a.True, b.True)
	neither := period.Intersect(False(a), False(b))
	return api.Bool{Domain: period.Union(either, neither), True: either}
}

// Restrict returns the part during a period, Extend fills a period with a value, Join puts two together, and Shift moves a moving Boolean in time.
func Restrict(b api.Bool, during []api.Interval) api.Bool {
	return api.Bool{Domain: period.Intersect(b.Domain, during), True: period.Intersect(b.True, during)}
}

func Extend(b api.Bool, during []api.Interval, value bool) api.Bool {
	return union(b, Constant(value, period.Minus(during, b.Domain)))
}

func Join(a, b api.Bool) (api.Bool, api.Errno) {
	if Sometime(Differ(a, b)) {
		return api.Bool{}, api.ErrConflict
	}
	return union(a, b), api.OK
}

// union returns what is defined where one of two moving Booleans is, and has its value. They contradict one another nowhere.
func union(a, b api.Bool) api.Bool {
	return api.Bool{Domain: period.Union(a.Domain, b.Domain), True: period.Union(a.True, b.True)}
}

func Shift(b api.Bool, by api.Rat) api.Bool {
	return api.Bool{Domain: period.Shift(b.Domain, by), True: period.Shift(b.True, by)}
}
