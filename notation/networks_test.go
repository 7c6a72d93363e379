package notation_test

import (
	"slices"
	"testing"

	"viator/api"
	"viator/notation"
	"viator/rational"
)

func TestNetworkStrings(t *testing.T) {
	for _, s := range []string{"|", "1 0 0 |", "1 0 0, 2 -3 4 | 5 1-2 5, 6 2>1 7 3, 7 1>2 8"} {
		if got := notation.ShowNetwork(notation.Network(s)); got != s {
			t.Errorf("%q is shown as %q", s, got)
		}
	}
	for _, s := range []string{"5@0", "1@-1/2"} {
		if got := notation.ShowPlace(notation.Place(s)); got != s {
			t.Errorf("%q is shown as %q", s, got)
		}
	}
}

func TestNetworkValues(t *testing.T) {
	n := notation.Network("1 0 0, 2 -3 4 | 5 1-2 5, 6 2>1 7 3")
	nodes := []api.Node{{Id: 1}, {Id: 2, X: -3, Y: 4}}
	roads := []api.Road{{Id: 5, From: 1, To: 2, Length: 5, Limit: 1}, {Id: 6, From: 2, To: 1, Length: 7, Limit: 3, OneWay: true}}
	if !slices.Equal(n.Nodes, nodes) || !slices.Equal(n.Roads, roads) {
		t.Errorf("Network = %v", n)
	}
	if p := notation.Place("5@3"); p != (api.Place{Road: 5, Offset: rational.FromInt(3)}) {
		t.Errorf("Place = %v", p)
	}
}
