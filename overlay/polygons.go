package overlay

import (
	"slices"

	"viator/api"
	"viator/plane"
	"viator/polygon"
	"viator/rational"
)

// FromPolygon returns the border of a polygon, and Polygons the polygons of which a region consists.
func FromPolygon(p api.Polygon) ([]api.Segment, api.Errno) {
	if e := polygon.Check(p); e != api.OK {
		return nil, e
	}
	border := polygon.Edges(polygon.Canonical(p))
	slices.SortFunc(border, byEnds)
	return limited(border)
}

func Polygons(r []api.Segment) ([]api.Polygon, api.Errno) {
	if !meetInTurn(r) {
		return nil, api.ErrShape
	}
	var holes [][]api.Point
	var all []api.Polygon
	for _, ring := range rings(r) {
		switch {
		case len(ring) > api.MaxVertices:
			return nil, api.ErrLimit
		case rational.Sign(polygon.RingArea2(ring)) > 0:
			all = append(all, api.Polygon{Outer: ring})
		default:
			holes = append(holes, ring)
		}
	}
	for _, hole := range holes {
		k := around(all, hole)
		if k < 0 { // not in a border
			return nil, api.ErrShape
		}
		all[k].Holes = append(all[k].Holes, hole)
		if len(all[k].Holes) >= api.MaxRings {
			return nil, api.ErrLimit
		}
	}
	return all, api.OK
}

// meetInTurn tells whether segments have no points in common but where one ends and another one begins.
func meetInTurn(r []api.Segment) bool {
	for k, s := range r {
		for _, t := range r[:k] {
			kind := plane.Meet(s, t).Kind
			inTurn := kind == plane.Touch && (s.B == t.A || t.B == s.A)
			if kind != plane.Apart && !inTurn {
				return false
			}
		}
	}
	return true
}

// rings returns the rings of a border, whose segments meet in turn. As these are in order, each ring begins with its least vertex, and the rings are ordered by it; as none leads straight on, no vertex is between its neighbours.
func rings(r []api.Segment) [][]api.Point {
	beginning := map[api.Point]api.Segment{}
	for _, s := range r {
		beginning[s.A] = s
	}
	var all [][]api.Point
	for _, first := range r {
		var ring []api.Point
		for s, ok := beginning[first.A]; ok; s, ok = beginning[s.B] {
			delete(beginning, s.A) // so that no segment is passed again
			ring = append(ring, s.A)
		}
		if len(ring) > 0 {
			all = append(all, ring)
		}
	}
	return all
}

// around returns the index of the least polygon around a hole, or -1 if there is none.
func around(all []api.Polygon, hole []api.Point) int {
	least := -1
	var area api.Rat // twice that of the least one
	for k, p := range all {
		if polygon.LocateRing(p.Outer, hole[0]) != polygon.Inside {
			continue
		}
		if size := polygon.RingArea2(p.Outer); least < 0 || rational.Compare(size, area) < 0 {
			least, area = k, size
		}
	}
	return least
}
