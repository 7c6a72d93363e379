package surd_test

import (
	"slices"
	"testing"

	"viator/api"
	"viator/notation"
	"viator/real"
	"viator/surd"
)

var (
	rat = notation.Rat
	re  = notation.Real
)

func TestNumbers(t *testing.T) {
	// a is 1 + 2*s and b is 3 - s, where s is the root of 2.
	a, b := surd.Number{P: rat("1"), Q: rat("2"), R: rat("2")}, surd.Number{P: rat("3"), Q: rat("-1"), R: rat("2")}
	for want, got := range map[string]surd.Number{
		"4+sqrt(2)": a.Plus(b), "-2+sqrt(18)": a.Minus(b), "-1+sqrt(50)": a.Times(b), "1/2+sqrt(2)": a.Scale(rat("1/2")), "5": surd.Of(rat("5")), "6+sqrt(8)": surd.Of(rat("5")).Plus(a), "5+sqrt(200)": a.Times(surd.Of(rat("5"))).Plus(surd.Of(rat("0"))), "1+sqrt(3)": surd.Instant(re("1+sqrt(3)")), "1-sqrt(3)": surd.Instant(re("1-sqrt(3)")), "7": surd.Instant(re("7")), "3-sqrt(2)": b,
	} {
		if got.Real() != re(want) {
			t.Errorf("%s in place of %s", real.Print(got.Real()), want)
		}
	}
	if a.Sign() != 1 || b.Sign() != 1 || b.Minus(a).Sign() != -1 || a.Minus(a).Sign() != 0 {
		t.Error("signs")
	}
}

func TestValues(t *testing.T) {
	for _, c := range [][3]string{{"1,2,3", "2", "17"}, {"1,2,3", "1-sqrt(2)", "12-sqrt(128)"}, {"5", "0+sqrt(2)", "5"}, {"0,0,1", "0-sqrt(2)", "2"}} {
		if got := surd.Value(notation.Quad(c[0]), re(c[1])).Real(); got != re(c[2]) {
			t.Errorf("%s at %s is %s; want %s", c[0], c[1], real.Print(got), c[2])
		}
	}
	f := notation.PointUnits("[0 1] 1,2 5,-1")[0].F
	if got, want := surd.Position(f, re("0+sqrt(2)")).Real(), (api.RealPoint{X: re("1+sqrt(8)"), Y: re("5-sqrt(2)")}); got != want {
		t.Errorf("Position = %v", got)
	}
}

func TestVectors(t *testing.T) {
	at := func(s string) surd.Spot { return surd.Fixed(notation.Point(s)) }
	a, b := at("3,1"), at("1,2")
	if got := surd.Cross(a, b).Real(); got != re("5") {
		t.Errorf("Cross = %s", real.Print(got))
	}
	if got := surd.Dot(a, b).Real(); got != re("5") {
		t.Errorf("Dot = %s", real.Print(got))
	}
	if got := surd.Dot(a, a.Minus(b)).Real(); got != re("5") {
		t.Errorf("Minus = %s", real.Print(got))
	}
	if surd.Compare(a, b) != 1 || surd.Compare(b, at("1,3")) != -1 || surd.Compare(a, a) != 0 {
		t.Error("Compare")
	}
	ring := []surd.Spot{at("0,0"), at("4,0"), at("4,4"), at("2,1"), at("0,4")}
	for s, want := range map[string]bool{"1,1": true, "3,1": true, "2,2": false, "2,1/2": true, "2,-1": false, "5,1": false, "-1,1": false, "1,5": false} {
		if surd.Within(at(s), ring) != want {
			t.Errorf("Within(%s) = %v", s, !want)
		}
	}
}

func TestInstants(t *testing.T) {
	given := notation.Reals("3 0+sqrt(2) 1 3")
	if got := surd.Instants(given); !slices.Equal(got, notation.Reals("1 4/3 0+sqrt(2) 2 3")) {
		t.Errorf("Instants = %s", notation.ShowReals(got))
	}
	if notation.ShowReals(given) != "3 0+sqrt(2) 1 3" {
		t.Error("Instants modifies its argument")
	}
	for s, want := range map[string]bool{"[0 1]": true, "[0 1)": false, "(1 2]": false, "[1 1]": true, "[2 3]": false, "(0 2)": true, "[-1 0]": false} {
		if surd.Contains(notation.Interval(s), re("1")) != want {
			t.Errorf("Contains(%s) = %v", s, !want)
		}
	}
}
