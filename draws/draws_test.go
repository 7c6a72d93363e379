package draws_test

import (
	"testing"

	"viator/draws"
)

func TestDraws(t *testing.T) {
	first, second, other := draws.From(1), draws.From(1), draws.From(2)
	var counts [7]int
	differ := false
	for range 7000 {
		a, b, c := first(7), second(7), other(7)
		if a != b {
			t.Fatalf("the same start leads to %d and %d", a, b)
		}
		counts[a]++
		differ = differ || a != c
	}
	for n, count := range counts {
		if count < 800 || count > 1200 {
			t.Errorf("%d was drawn %d times of 7000", n, count)
		}
	}
	if !differ {
		t.Error("another start leads to the same numbers")
	}
}
