// Package draws draws numbers that follow no plan, but are always the same. It is there for tests.
package draws

// From returns a function that draws numbers from 0 on which are less than its argument. What it draws depends on the state from which it starts, from 1 to 2^31 - 2.
func From(state int) func(below int) int {
	return func(below int) int {
		state = state * 48271 % (1<<31 - 1)
		return state / 16 % below
	}
}
