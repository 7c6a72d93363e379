// Package lists contains what several layers do with lists of any kind.
package lists

import "iter"

// Convert returns the elements of a list in another form.
func Convert[A, B any](l []A, form func(a A) B) []B {
	list := make([]B, len(l))
	for k, a := range l {
		list[k] = form(a)
	}
	return list
}

// Neighbours yields each element of a list but the last one, with the one that follows it.
func Neighbours[A any](l []A) iter.Seq2[A, A] {
	return func(yield func(a, next A) bool) {
		for k := range len(l) - 1 {
			if !yield(l[k], l[k+1]) {
				return
			}
		}
	}
}
