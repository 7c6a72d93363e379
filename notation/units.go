package notation

import (
	"strconv"
	"strings"

	"viator/api"
	"viator/lists"
)

// NumberUnits returns the units that a string like "[0 1) 0,1; [1 1] 5" shows, PointUnits those of "[0 1) 0,1 5; [1 1] 5 -1/2" with the functions of both coordinates, and LabelUnits those of "[0 1) 5; [1 1] -3". ShowNumberUnits, ShowPointUnits and ShowLabelUnits return such strings.
func NumberUnits(s string) []api.NumberUnit {
	return units(s, func(in api.Interval, words []string) api.NumberUnit {
		return api.NumberUnit{In: in, F: Quad(words[0])}
	})
}

func ShowNumberUnits(l []api.NumberUnit) string {
	return show(l, func(u api.NumberUnit) string { return ShowInterval(u.In) + " " + ShowQuad(u.F) })
}

func PointUnits(s string) []api.PointUnit {
	return units(s, func(in api.Interval, words []string) api.PointUnit {
		return api.PointUnit{In: in, F: line(words[0], words[1])}
	})
}

func ShowPointUnits(l []api.PointUnit) string {
	return show(l, func(u api.PointUnit) string {
		return ShowInterval(u.In) + " " + ShowPair(u.F.X0, u.F.X1) + " " + ShowPair(u.F.Y0, u.F.Y1)
	})
}

func LabelUnits(s string) []api.LabelUnit {
	return units(s, func(in api.Interval, words []string) api.LabelUnit {
		return api.LabelUnit{In: in, Label: number(words[0])}
	})
}

func ShowLabelUnits(l []api.LabelUnit) string {
	return show(l, func(u api.LabelUnit) string { return ShowInterval(u.In) + " " + strconv.Itoa(u.Label) })
}

// units returns the units between the semicolons of a string, each of which is made from its interval and the words behind it.
func units[U any](s string, unit func(in api.Interval, words []string) U) []U {
	var l []U
	for _, part := range strings.Split(s, "; ") {
		if words := strings.Fields(part); len(words) > 2 {
			l = append(l, unit(Interval(words[0]+" "+words[1]), words[2:]))
		}
	}
	return l
}

func show[U any](l []U, unit func(u U) string) string {
	return strings.Join(lists.Convert(l, unit), "; ")
}

// Point returns the point of a string like "3,1/2".
func Point(s string) api.Point {
	x, y := Pair(s)
	return api.Point{X: x, Y: y}
}

// line returns the moving point with two coordinates.
func line(x, y string) api.Line {
	var f api.Line
	f.X0, f.X1 = Pair(x)
	f.Y0, f.Y1 = Pair(y)
	return f
}

// Rings returns the rings of vertices that a string like "0:0 4,1/2:0 0:4,-4 | 1:1 2:1 1:2" shows, with both coordinates of each one, and ShowRings such a string; Polygon returns the polygon of rings that rest.
func Rings(s string) [][]api.Line {
	vertex := func(word string) api.Line {
		x, y, _ := strings.Cut(word, ":")
		return line(x, y)
	}
	return lists.Convert(strings.Split(s, "|"), func(ring string) []api.Line {
		return lists.Convert(strings.Fields(ring), vertex)
	})
}

func ShowRings(rings [][]api.Line) string {
	vertex := func(f api.Line) string { return ShowPair(f.X0, f.X1) + ":" + ShowPair(f.Y0, f.Y1) }
	shown := lists.Convert(rings, func(ring []api.Line) string {
		return strings.Join(lists.Convert(ring, vertex), " ")
	})
	return strings.Join(shown, " | ")
}

func Polygon(s string) api.Polygon {
	rings := lists.Convert(Rings(s), func(ring []api.Line) []api.Point {
		return lists.Convert(ring, func(f api.Line) api.Point { return api.Point{X: f.X0, Y: f.Y0} })
	})
	return api.Polygon{Outer: rings[0], Holes: rings[1:]}
}

// RegionUnits returns the units that a string like "[0 1) 0:0 1:0 0:1,1; [1 1] 0:0 3:0 3:3" shows, and ShowRegionUnits such a string.
func RegionUnits(s string) []api.RegionUnit {
	return units(s, func(in api.Interval, words []string) api.RegionUnit {
		rings := Rings(strings.Join(words, " "))
		return api.RegionUnit{In: in, Outer: rings[0], Holes: rings[1:]}
	})
}

func ShowRegionUnits(l []api.RegionUnit) string {
	return show(l, func(u api.RegionUnit) string {
		return ShowInterval(u.In) + " " + ShowRings(append([][]api.Line{u.Outer}, u.Holes...))
	})
}
