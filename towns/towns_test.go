package towns_test

import (
	"testing"

	"viator/api"
	"viator/network"
	"viator/notation"
	"viator/rational"
	"viator/towns"
)

func TestNetworks(t *testing.T) {
	parallel, oneWay, lonely := 0, 0, 0
	for _, n := range towns.Networks() {
		if e := network.Check(n); e != api.OK {
			t.Errorf("%s: %d", notation.ShowNetwork(n), e)
		}
		pairs := map[[2]int]bool{}
		for _, r := range n.Roads {
			pair := [2]int{min(r.From, r.To), max(r.From, r.To)}
			if pairs[pair] {
				parallel++
			}
			if r.OneWay {
				oneWay++
			}
			pairs[pair] = true
		}
		for _, v := range n.Nodes {
			if _, e := network.At(n, v.Id); e == api.ErrGap {
				lonely++
			}
		}
		for _, p := range towns.Places(n) {
			if e := network.CheckPlace(n, p); e != api.OK {
				t.Errorf("%s: %s: %d", notation.ShowNetwork(n), notation.ShowPlace(p), e)
			}
		}
	}
	if parallel < 30 || oneWay < 30 || lonely < 10 {
		t.Errorf("%d roads are parallel to others, %d are OneWay, and %d nodes have none", parallel, oneWay, lonely)
	}
}

func TestLengths(t *testing.T) {
	n := notation.Network(towns.Example)
	for _, c := range []struct {
		along int
		p     string
		want  map[string]int
	}{
		{3, "2@1", map[string]int{"2@1": 0, "2@6": 5, "3@0": 5, "3@2": 7, "1@0": 8, "1@2": 10, "1@5": 13, "2@0": 13}},
		{2, "2@1", map[string]int{"2@1": 0, "2@6": 5, "3@0": 5}},
		{2, "1@4", map[string]int{"1@0": 4, "1@5": 1, "3@3": 4, "2@0": 1, "2@6": 7}},
		{1, "3@1", map[string]int{"3@1": 0}},
	} {
		got := towns.Lengths(n, n.Roads[:c.along], notation.Place(c.p))
		for p, want := range c.want {
			if length, found := got[notation.Place(p)]; !found || length != rational.FromInt(want) {
				t.Errorf("from %s to %s along the first %d roads: %v, %v", c.p, p, c.along, length, found)
			}
		}
		if c.along == 1 && len(got) != 1 {
			t.Errorf("from %s: %v", c.p, got)
		}
		if _, found := got[notation.Place("3@2")]; found != (c.along == 3) {
			t.Errorf("from %s to 3@2 along the first %d roads", c.p, c.along)
		}
	}
}
