package lists_test

import (
	"maps"
	"slices"
	"testing"

	"viator/lists"
)

func TestConvert(t *testing.T) {
	for _, l := range [][]int{nil, {}, {3}, {3, -1, 3}} {
		got := lists.Convert(l, func(n int) string { return string(rune('a' + n)) })
		var want []string
		for _, n := range l {
			want = append(want, string(rune('a'+n)))
		}
		if !slices.Equal(got, want) {
			t.Errorf("Convert(%v) = %q", l, got)
		}
	}
	l := []int{1, 2}
	lists.Convert(l, func(n int) int { return n })[0] = 9
	if l[0] != 1 {
		t.Error("the result shares memory with the argument")
	}
}

func TestNeighbours(t *testing.T) {
	for _, l := range [][]int{nil, {}, {3}, {3, 4}, {3, 3, 5, 1}} {
		k := 0
		for a, next := range lists.Neighbours(l) {
			if a != l[k] || next != l[k+1] {
				t.Errorf("Neighbours(%v) yields %d, %d as number %d", l, a, next, k)
			}
			k++
		}
		if k != max(len(l)-1, 0) {
			t.Errorf("Neighbours(%v) yields %d pairs", l, k)
		}
	}
	count := 0
	for a := range lists.Neighbours([]int{1, 2, 3, 4}) {
		count++
		if a == 2 {
			break
		}
	}
	if count != 2 {
		t.Errorf("%d pairs before the break", count)
	}
}

func TestKeyed(t *testing.T) {
	got := lists.Keyed([]string{"a", "bc", "d", "efg", ""}, func(s string) int { return len(s) })
	if want := map[int]string{0: "", 1: "d", 2: "bc", 3: "efg"}; !maps.Equal(got, want) {
		t.Errorf("Keyed = %v", got)
	}
}

func TestLeast(t *testing.T) {
	for _, c := range []struct {
		l     []string
		want  string
		found bool
	}{
		{nil, "", false}, {[]string{""}, "", true}, {[]string{"abc"}, "abc", true}, {[]string{"bb", "a", "c"}, "a", true}, {[]string{"a", "bb", ""}, "", true}, {[]string{"aa", "bb", "ccc"}, "aa", true},
	} {
		got, found := lists.Least(c.l, func(a, b string) int { return len(a) - len(b) })
		if got != c.want || found != c.found {
			t.Errorf("Least(%q) = %q, %v", c.l, got, found)
		}
	}
}
