package candidate

import (
	"cmp"
	"iter"
	"slices"

	"viator/api"
	"viator/integer"
	"viator/lists"
	"viator/rational"
)

// MaxPairs is the greatest number of pairs of a cell and a road of a grid.
const MaxPairs = 1 << 16

// Grid is an index of the roads of a network by cells.
type Grid struct {
	size    int
	roads   []api.Road
	corners map[int]corner
	meeting map[Cell][]int // the roads that meet a cell, by their places in the list
	cells   []Cell         // those that roads meet, in order
}

// New returns the grid of a network with cells of some size.
func New(n api.Network, size int) (*Grid, api.Errno) {
	if size < 1 || size > api.MaxCoordinate || slices.ContainsFunc(n.Nodes, isOutside) {
		return nil, api.ErrRange
	}
	g := &Grid{size: size, roads: slices.Clone(n.Roads), corners: cornersOf(n), meeting: map[Cell][]int{}}
	nodes := lists.Keyed(n.Nodes, func(node api.Node) int { return node.Id })
	pairs := 0
	for k, r := range g.roads {
		for c := range cells(nodes[r.From], nodes[r.To], size) {
			if pairs == MaxPairs {
				return nil, api.ErrLimit
			}
			pairs++
			if len(g.meeting[c]) == 0 {
				g.cells = append(g.cells, c)
			}
			g.meeting[c] = append(g.meeting[c], k)
		}
	}
	slices.SortFunc(g.cells, compareCells)
	return g, api.OK
}

// isOutside tells whether a node has coordinates that no valid network has, with which the numbers of cells could overflow.
func isOutside(node api.Node) bool {
	return max(node.X, node.Y) > api.MaxCoordinate || min(node.X, node.Y) < -api.MaxCoordinate
}

func compareCells(c, d Cell) int { return cmp.Or(cmp.Compare(c.X, d.X), cmp.Compare(c.Y, d.Y)) }

// Cells returns the cells that roads meet, and Roads the roads that meet a cell.
func (g *Grid) Cells() []Cell {
	if g == nil {
		return nil
	}
	return slices.Clone(g.cells)
}

func (g *Grid) Roads(c Cell) []int {
	if g == nil {
		return nil
	}
	return lists.Convert(g.meeting[c], func(k int) int { return g.roads[k].Id })
}

// Find returns the candidates for a point and a radius, and Best the first ones of them.
func (g *Grid) Find(p api.Point, radius api.Rat) []Candidate {
	if g == nil {
		return nil
	}
	var near []int
	for c := range g.around(p, radius) {
		near = append(near, g.meeting[c]...)
	}
	slices.Sort(near)
	along := lists.Convert(slices.Compact(near), func(k int) api.Road { return g.roads[k] })
	return find(along, g.corners, p, radius)
}

// around yields the cells in which all positions are whose coordinates are at most the radius away from those of a point.
func (g *Grid) around(p api.Point, radius api.Rat) iter.Seq[Cell] {
	x0, x1 := g.span(p.X, radius)
	y0, y1 := g.span(p.Y, radius)
	return func(yield func(c Cell) bool) {
		if (x1-x0+1)*(y1-y0+1) > len(g.cells) {
			for _, c := range g.cells {
				if x0 <= c.X && c.X <= x1 && y0 <= c.Y && c.Y <= y1 && !yield(c) {
					return
				}
			}
			return
		}
		for x := x0; x <= x1; x++ {
			for y := y0; y <= y1; y++ {
				if !yield(Cell{X: x, Y: y}) {
					return
				}
			}
		}
	}
}

// span returns the numbers of the first and of the last column (or row) that is needed for the numbers at most the radius away from a coordinate.
func (g *Grid) span(coordinate, radius api.Rat) (first, last int) {
	return g.column(rational.Sub(coordinate, radius)), g.column(rational.Add(coordinate, radius))
}

// column returns the number of the last column (or row) to which a coordinate belongs; for one that is beyond all roads, that of one at least as far out as these.
func (g *Grid) column(coordinate api.Rat) int {
	const most = api.MaxCoordinate
	ratio, _ := rational.Div(coordinate, rational.FromInt(g.size))
	number := rational.Floor(ratio)
	n, fits := integer.ToInt(number)
	if !fits {
		n = integer.Sign(number) * most
	}
	return min(max(n, -most), most)
}

func (g *Grid) Best(p api.Point, radius api.Rat, most int) []Candidate {
	list := g.Find(p, radius)
	return list[:min(max(most, 0), len(list))]
}

// Closest returns the candidate with the least distance of all.
func (g *Grid) Closest(p api.Point) (Candidate, bool) {
	if g == nil {
		return Candidate{}, false
	}
	radius := rational.Add(rational.FromInt(g.size), beyond(p))
	// The last one of these radii is at least 2^22 times as great as the first one, and reaches all of the square in which roads can be, which is 2^21 wide.
	for range 23 {
		if list := g.Find(p, radius); len(list) > 0 {
			return list[0], true
		}
		radius = rational.Add(radius, radius)
	}
	return Candidate{}, false
}

// beyond returns how far a point is outside of the square in which roads can be, in the direction of one of the coordinates.
func beyond(p api.Point) api.Rat {
	greatest := rational.Max(rational.Abs(p.X), rational.Abs(p.Y))
	return rational.Max(api.Rat{}, rational.Sub(greatest, rational.FromInt(api.MaxCoordinate)))
}
