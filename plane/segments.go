package plane

import (
	"viator/api"
	"viator/rational"
)

// The kinds of meetings.
const (
	Apart   = iota // no common point
	Touch          // one common point, which is an end of at least one of both segments
	Cross          // one common point, which is an end of neither
	Overlap        // a common segment with two different ends
)

// Meeting says what two segments have in common: their common point (both ends of Common are it), or their common segment.
type Meeting struct {
	Kind   int
	Common api.Segment
}

// OnSegment reports whether a point lies on a segment, and Meet returns what two segments have in common.
func OnSegment(p api.Point, s api.Segment) bool {
	s = ordered(s)
	return Compare(s.A, p) <= 0 && Compare(p, s.B) <= 0 && Orientation(s.A, s.B, p) == 0
}

// ordered returns a segment with its ends in increasing order.
func ordered(s api.Segment) api.Segment {
	if Compare(s.A, s.B) > 0 {
		return api.Segment{A: s.B, B: s.A}
	}
	return s
}

func Meet(s, t api.Segment) Meeting {
	s, t = ordered(s), ordered(t)
	turnA, turnB := turn(s, t.A), turn(s, t.B) // of the ends of t at s
	tA, tB := rational.Sign(turnA), rational.Sign(turnB)
	sA, sB := Orientation(t.A, t.B, s.A), Orientation(t.A, t.B, s.B)
	switch {
	case tA == 0 && tB == 0 && sA == 0 && sB == 0:
		return meetInLine(s, t)
	case tA*tB > 0 || sA*sB > 0:
		return Meeting{}
	// Their lines have one point in common, so that an end of one on the line of the other is it.
	case tA == 0:
		return meetAt(Touch, t.A)
	case tB == 0:
		return meetAt(Touch, t.B)
	case sA == 0:
		return meetAt(Touch, s.A)
	case sB == 0:
		return meetAt(Touch, s.B)
	}
	r, _ := rational.Div(turnA, rational.Sub(turnA, turnB))
	return meetAt(Cross, Divide(t, r))
}

func meetAt(kind int, p api.Point) Meeting {
	return Meeting{Kind: kind, Common: api.Segment{A: p, B: p}}
}

// meetInLine returns the meeting of two segments whose ends are in order and lie on one line.
func meetInLine(s, t api.Segment) Meeting {
	from, to := s.A, s.B
	if Compare(from, t.A) < 0 {
		from = t.A
	}
	if Compare(to, t.B) > 0 {
		to = t.B
	}
	switch order := Compare(from, to); {
	case order > 0:
		return Meeting{}
	case order == 0:
		return meetAt(Touch, from)
	}
	return Meeting{Kind: Overlap, Common: api.Segment{A: from, B: to}}
}

// Divide returns the point of a segment at a fraction of its way, and Nearest the point of a segment that is nearest to a point, with its fraction.
func Divide(s api.Segment, r api.Rat) api.Point {
	return Add(s.A, Scale(Sub(s.B, s.A), r))
}

func Nearest(p api.Point, s api.Segment) (api.Point, api.Rat) {
	way := Sub(s.B, s.A)
	r, e := rational.Div(Dot(Sub(p, s.A), way), Dot(way, way))
	if e != api.OK { // both ends are equal
		return s.A, api.Rat{}
	}
	r = least(greatest(r, api.Rat{}), rational.FromInt(1))
	return Divide(s, r), r
}

// Distance2 returns the squared distance of two points, PointSegment2 that of a point and a segment, and Segments2 that of two segments.
func Distance2(p, q api.Point) api.Rat {
	way := Sub(q, p)
	return Dot(way, way)
}

func PointSegment2(p api.Point, s api.Segment) api.Rat {
	nearest, _ := Nearest(p, s)
	return Distance2(p, nearest)
}

func Segments2(s, t api.Segment) api.Rat {
	if Meet(s, t).Kind != Apart {
		return api.Rat{}
	}
	return least(PointSegment2(s.A, t), PointSegment2(s.B, t), PointSegment2(t.A, s), PointSegment2(t.B, s))
}
