package candidate

import (
	"iter"

	"viator/api"
)

// Cell is a cell of a grid.
type Cell struct{ X, Y int }

// cells yields the cells of a size that the segment between two nodes meets, column by column.
func cells(a, b api.Node, size int) iter.Seq[Cell] {
	if a.X > b.X {
		a, b = b, a
	}
	return func(yield func(c Cell) bool) {
		for x := firstBeside(a.X, size); x <= floor(b.X, size); x++ {
			low, high, of := heights(a, b, max(a.X, x*size), min(b.X, (x+1)*size))
			for y := firstBeside(low, of*size); y <= floor(high, of*size); y++ {
				if !yield(Cell{X: x, Y: y}) {
					return
				}
			}
		}
	}
}

// heights returns the least and the greatest Y of the segment between two nodes where X is from left to right, both as multiples of the reciprocal of a number.
func heights(a, b api.Node, left, right int) (low, high, of int) {
	if a.X == b.X {
		return min(a.Y, b.Y), max(a.Y, b.Y), 1
	}
	wide, up := b.X-a.X, b.Y-a.Y
	first, last := a.Y*wide+up*(left-a.X), a.Y*wide+up*(right-a.X)
	return min(first, last), max(first, last), wide
}

// floor returns the number of the last interval of a size that a number belongs to, and firstBeside that of the first one: a number between two intervals belongs to both.
func floor(n, size int) int {
	if n%size < 0 {
		return n/size - 1
	}
	return n / size
}

func firstBeside(n, size int) int { return -floor(-n, size) - 1 }
