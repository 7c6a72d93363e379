package notation_test

import (
	"slices"
	"testing"

	"viator/api"
	"viator/integer"
	"viator/notation"
	"viator/rational"
	"viator/real"
)

func TestStrings(t *testing.T) {
	for _, s := range []string{"", "0", "-7/3 1-sqrt(2) 5"} {
		if got := notation.ShowReals(notation.Reals(s)); got != s {
			t.Errorf("%q is shown as %q", s, got)
		}
	}
	for _, s := range []string{"", "[0 1]", "(0-sqrt(2) 1/2], [3 3], (4 5)"} {
		if got := notation.ShowPeriod(notation.Period(s)); got != s {
			t.Errorf("%q is shown as %q", s, got)
		}
	}
	for _, s := range []string{"0", "-1/2", "0,3", "1,-2/3"} {
		if got := notation.ShowPair(notation.Pair(s)); got != s {
			t.Errorf("%q is shown as %q", s, got)
		}
	}
	for _, s := range []string{"0", "-1/2", "0,3", "1,0,-2/3", "0,1,1"} {
		if got := notation.ShowQuad(notation.Quad(s)); got != s {
			t.Errorf("%q is shown as %q", s, got)
		}
	}
}

func TestValues(t *testing.T) {
	half, _ := rational.FromInts(1, 2)
	if notation.Rat("1/2") != half || notation.Real("0-sqrt(1/2)") != (api.Real{R: half, Neg: true}) {
		t.Error("numbers")
	}
	want := api.Interval{From: real.FromInt(1), To: api.Real{P: half, R: rational.FromInt(3)}, OpenTo: true}
	if notation.Interval("[1 1/2+sqrt(3))") != want || !slices.Equal(notation.Period("[1 1/2+sqrt(3))"), []api.Interval{want}) {
		t.Error("intervals")
	}
	if a, b := notation.Pair("1/2"); a != half || b != (api.Rat{}) {
		t.Error("pairs")
	}
	if notation.Quad("0,0,1/2") != (api.Quad{C2: half}) || notation.Quad("1,2") != (api.Quad{C0: rational.FromInt(1), C1: api.Rat{Num: integer.FromInt(2)}}) {
		t.Error("functions")
	}
	for _, x := range notation.Wrong() {
		if real.Check(x) == api.OK {
			t.Errorf("%v is canonical", x)
		}
	}
}

func TestWrongString(t *testing.T) {
	defer func() {
		if recover() == nil {
			t.Error("a string that is wrong")
		}
	}()
	notation.Rat("x")
}
