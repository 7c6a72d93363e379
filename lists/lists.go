// Package lists contains what several layers do with lists of any kind.
package lists

import "iter"

// Convert returns the elements of a list in another form.
func Convert[A, B any](l []A, form func(a A) B) []B {
	list := make([]B, len(l))
	for k, a := range l {
		list[k] = form(a)
	}
	return list
}

// Neighbours yields each element of a list but the last one, with the one that follows it.
func Neighbours[A any](l []A) iter.Seq2[A, A] {
	return func(yield func(a, next A) bool) {
		for k := range len(l) - 1 {
			if !yield(l[k], l[k+1]) {
				return
			}
		}
	}
}

// Keyed returns the elements of a list by their keys; of several ones with the same key, the last one.
func Keyed[K comparable, A any](l []A, key func(a A) K) map[K]A {
	elements := make(map[K]A, len(l))
	for _, a := range l {
		elements[key(a)] = a
	}
	return elements
}

// Least returns the least element of a list, of several ones the first one, and whether there is one.
func Least[A any](l []A, compare func(a, b A) int) (least A, found bool) {
	for k, a := range l {
		if k == 0 || compare(a, least) < 0 {
			least = a
		}
	}
	return least, len(l) > 0
}
