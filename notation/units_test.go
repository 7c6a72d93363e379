package notation_test

import (
	"testing"

	"viator/api"
	"viator/notation"
	"viator/plane"
	"viator/rational"
)

func TestUnitStrings(t *testing.T) {
	for _, s := range []string{"", "[0 1) 0,1; [1 1] 5; (1 0+sqrt(2)] 1,0,-1/2"} {
		if got := notation.ShowNumberUnits(notation.NumberUnits(s)); got != s {
			t.Errorf("%q is shown as %q", s, got)
		}
	}
	for _, s := range []string{"", "[0 1) 0,1 5; [1 1] 5 -1/2; (2 3] 0,-1/3 1,2"} {
		if got := notation.ShowPointUnits(notation.PointUnits(s)); got != s {
			t.Errorf("%q is shown as %q", s, got)
		}
	}
	for _, s := range []string{"", "[0 1) 5; [1 1] -3"} {
		if got := notation.ShowLabelUnits(notation.LabelUnits(s)); got != s {
			t.Errorf("%q is shown as %q", s, got)
		}
	}
	for _, s := range []string{"", "[0 1) 0:0 1,1/2:0 0:1,-1; (1 2] 0:0 9:0 0:9 | 1:1 2:1 1:2 | 5:5"} {
		if got := notation.ShowRegionUnits(notation.RegionUnits(s)); got != s {
			t.Errorf("%q is shown as %q", s, got)
		}
	}
}

func TestUnitValues(t *testing.T) {
	if l := notation.NumberUnits("[0 1) 0,1"); len(l) != 1 || l[0] != (api.NumberUnit{In: notation.Interval("[0 1)"), F: notation.Quad("0,1")}) {
		t.Errorf("NumberUnits = %v", l)
	}
	f := api.Line{X0: rational.FromInt(1), X1: rational.FromInt(2), Y0: rational.FromInt(3), Y1: rational.FromInt(4)}
	if l := notation.PointUnits("[0 1] 3 4; (1 2) 1,2 3,4"); len(l) != 2 || l[1] != (api.PointUnit{In: notation.Interval("(1 2)"), F: f}) {
		t.Errorf("PointUnits = %v", l)
	}
	if l := notation.LabelUnits("[0 1) 7"); len(l) != 1 || l[0] != (api.LabelUnit{In: notation.Interval("[0 1)"), Label: 7}) {
		t.Errorf("LabelUnits = %v", l)
	}
	l := notation.RegionUnits("[0 1) 1,2:3,4 | 0:0 1,2:3,4")
	if len(l) != 1 || len(l[0].Outer) != 1 || l[0].Outer[0] != f || len(l[0].Holes) != 1 || len(l[0].Holes[0]) != 2 || l[0].Holes[0][1] != f {
		t.Errorf("RegionUnits = %v", l)
	}
	if p := notation.Polygon("1:2 3:4 | 5:6"); len(p.Outer) != 2 || p.Outer[1] != plane.At(3, 4) || len(p.Holes) != 1 || p.Holes[0][0] != plane.At(5, 6) {
		t.Errorf("Polygon = %v", p)
	}
	if p := notation.Point("3,-1"); p != plane.At(3, -1) {
		t.Errorf("Point = %v", p)
	}
}
