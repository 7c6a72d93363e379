package roads_test

import (
	"testing"

	"viator/api"
	"viator/notation"
	"viator/rational"
	"viator/roads"
	"viator/towns"
)

func TestNodes(t *testing.T) {
	r := api.Road{Id: 3, From: 7, To: 8, Length: 4}
	for offset, want := range map[string]int{"0": 7, "4": 8, "1/2": 0, "2": 0, "7/2": 0} {
		if node, at := roads.Node(r, notation.Rat(offset)); node != want || at != (want != 0) {
			t.Errorf("Node(%s) = %d, %v", offset, node, at)
		}
	}
	for node, want := range map[int]string{7: "0", 8: "4"} {
		if offset, at := roads.Offset(r, node); offset != notation.Rat(want) || !at {
			t.Errorf("Offset(%d) = %v, %v", node, offset, at)
		}
	}
	for _, node := range []int{0, 3, 9, -7} {
		if offset, at := roads.Offset(r, node); at || offset != (api.Rat{}) {
			t.Errorf("Offset(%d) = %v, %v", node, offset, at)
		}
	}
}

func TestWays(t *testing.T) {
	for _, c := range []struct {
		from, to, length string
		denied           bool
	}{
		{"0", "4", "4", false}, {"4", "0", "4", true}, {"1/2", "2", "3/2", false}, {"2", "3/2", "1/2", true}, {"1", "1", "0", false},
	} {
		w := roads.Way{Road: 3, From: notation.Rat(c.from), To: notation.Rat(c.to)}
		if length := roads.Length(w); length != notation.Rat(c.length) {
			t.Errorf("Length(%v) = %v", w, length)
		}
		if roads.IsDenied(api.Road{OneWay: true}, w) != c.denied || roads.IsDenied(api.Road{}, w) {
			t.Errorf("IsDenied(%v)", w)
		}
	}
}

func TestLeastExamples(t *testing.T) {
	n := notation.Network("1 0 0, 2 0 0, 3 0 0 | 4 1-2 3, 5 2>1 2, 6 2-1 2, 7 1>2 2, 8 2-3 9")
	for _, c := range []struct {
		p, q string
		road int
		from string
		to   string
	}{
		{"4@0", "4@3", 6, "2", "0"}, {"4@3", "4@0", 5, "0", "2"}, {"4@1", "4@3", 4, "1", "3"}, {"4@1", "8@0", 4, "1", "3"}, {"8@0", "4@1", 4, "3", "1"}, {"5@1", "7@0", 5, "1", "2"}, {"4@3", "5@0", 4, "3", "3"}, {"6@1/2", "6@1/2", 6, "1/2", "1/2"},
		{"7@0", "5@1", 0, "0", "0"}, {"4@1", "5@1", 0, "0", "0"}, {"4@0", "8@1", 0, "0", "0"}, {"5@1", "5@1/2", 0, "0", "0"}, {"4@0", "9@0", 0, "0", "0"},
	} {
		w, found := roads.Least(n, notation.Place(c.p), notation.Place(c.q))
		if found != (c.road != 0) || w != (roads.Way{Road: c.road, From: notation.Rat(c.from), To: notation.Rat(c.to)}) {
			t.Errorf("Least(%s, %s) = %v, %v", c.p, c.q, w, found)
		}
	}
}

// The least way is on the first road that is alone enough for its length.
func TestLeast(t *testing.T) {
	for _, n := range towns.Networks() {
		for _, p := range towns.Places(n) {
			lengths := map[int]map[api.Place]api.Rat{}
			for k, r := range n.Roads {
				lengths[r.Id] = towns.Lengths(n, n.Roads[k:k+1], p)
			}
			for _, q := range towns.Places(n) {
				road := 0
				for _, r := range n.Roads {
					length, found := lengths[r.Id][q]
					if found && isOn(n, r, p) && (road == 0 || rational.Compare(length, lengths[road][q]) < 0) {
						road = r.Id
					}
				}
				w, found := roads.Least(n, p, q)
				if w.Road != road || found != (road != 0) || found && roads.Length(w) != lengths[road][q] {
					t.Errorf("%s: Least(%s, %s) = %v", notation.ShowNetwork(n), notation.ShowPlace(p), notation.ShowPlace(q), w)
				}
			}
		}
	}
}

// isOn tells whether a position lies on a road: whether it is the same as one there.
func isOn(n api.Network, r api.Road, p api.Place) bool {
	for q, length := range towns.Lengths(n, nil, p) {
		if q.Road == r.Id && length == (api.Rat{}) {
			return true
		}
	}
	return false
}
