package candidate_test

import (
	"math"
	"slices"
	"testing"

	"viator/api"
	"viator/candidate"
	"viator/rational"
)

func TestP22_3Examples(t *testing.T) {
	type cell = candidate.Cell
	for _, c := range []struct {
		s    string
		size int
		want []cell
	}{
		{example, 4, []cell{{-1, -1}, {-1, 0}, {0, -1}, {0, 0}, {1, -1}, {1, 0}}}, {example, 3, []cell{{-1, -1}, {-1, 0}, {0, -1}, {0, 0}, {1, -1}, {1, 0}}}, {example, 1 << 20, []cell{{-1, -1}, {-1, 0}, {0, -1}, {0, 0}}},
		{"1 1 1, 2 5 3 | 1 1-2 5", 2, []cell{{0, 0}, {1, 0}, {1, 1}, {2, 1}}}, {"1 1 1, 2 5 3 | 1 2-1 5", 2, []cell{{0, 0}, {1, 0}, {1, 1}, {2, 1}}}, {"1 1 1, 2 5 5 | 1 2-1 6", 2, []cell{{0, 0}, {0, 1}, {1, 0}, {1, 1}, {1, 2}, {2, 1}, {2, 2}}}, {"1 1 5, 2 5 1 | 1 2-1 6", 2, []cell{{0, 1}, {0, 2}, {1, 0}, {1, 1}, {1, 2}, {2, 0}, {2, 1}}},
		{"1 1 1, 2 1 1 | 1 1-2 1", 2, []cell{{0, 0}}}, {"1 1 1, 2 1 1 | 1 1-2 1", 1, []cell{{0, 0}, {0, 1}, {1, 0}, {1, 1}}}, {"1 -1 -2, 2 -1 -2 | 1 1-2 1", 2, []cell{{-1, -2}, {-1, -1}}}, {"1 -1 -3, 2 -1 3 | 1 1-2 6", 2, []cell{{-1, -2}, {-1, -1}, {-1, 0}, {-1, 1}}}, {"1 2 3, 2 2 -3 | 1 1-2 6", 4, []cell{{0, -1}, {0, 0}}}, {"|", 1, nil}, {"5 1 1 |", 1, nil},
	} {
		if got := grid(town(c.s), c.size).Cells(); !slices.Equal(got, c.want) {
			t.Errorf("%s: the cells of the size %d are %v; want %v", c.s, c.size, got, c.want)
		}
	}
}

func TestP22_3(t *testing.T) {
	for _, n := range slanted() {
		for _, size := range []int{1, 2, 3, 4, 5, 7, 1 << 20} {
			checkCells(t, n, size, -12/size-2, 12/size+1)
		}
	}
}

// Roads as long as they can be.
func TestP22_3Long(t *testing.T) {
	const side = "1 -1048576 -1048576, 2 1048576 1048576, 3 -1048576 1048576, 4 1048575 -1048573, 5 1048576 -1048576, 6 0 0 | 1 1-2 3000000, 2 4-3 3000000, 3 1-4 3000000, 4 6-5 3000000, 5 3-1 3000000, 6 2>5 3000000, 7 2-4 3000000"
	for _, size := range []int{1 << 20, 1<<20 - 1, 1 << 17, 100001} {
		checkCells(t, town(side), size, -1<<20/size-2, 1<<20/size+1)
	}
}

// checkCells compares the cells and the roads of a grid with what the definition says of all cells whose numbers are between two ones.
func checkCells(t *testing.T, n api.Network, size, low, high int) {
	t.Helper()
	g := grid(n, size)
	var cells []candidate.Cell
	for x := low; x <= high; x++ {
		for y := low; y <= high; y++ {
			c := candidate.Cell{X: x, Y: y}
			var want []int
			for _, r := range n.Roads {
				if meets(n, r, c, size) {
					want = append(want, r.Id)
				}
			}
			if got := g.Roads(c); !slices.Equal(got, want) {
				t.Errorf("%s: the roads of the cell %v of the size %d are %v; want %v", showTown(n), c, size, got, want)
			}
			if len(want) > 0 {
				cells = append(cells, c)
			}
		}
	}
	if got := g.Cells(); !slices.Equal(got, cells) {
		t.Errorf("%s: the cells of the size %d are %v; want %v", showTown(n), size, got, cells)
	}
	for _, c := range []candidate.Cell{{X: low - 1}, {Y: high + 1}, {X: math.MaxInt, Y: math.MinInt}} {
		if got := g.Roads(c); len(got) > 0 {
			t.Errorf("%s: the roads of the cell %v of the size %d are %v", showTown(n), c, size, got)
		}
	}
}

// The cells of this road are as many as permitted, or one more.
func TestP22_3Limit(t *testing.T) {
	for _, c := range []struct {
		s string
		e api.Errno
	}{
		{"1 1 1, 2 131071 1 | 1 1-2 131070", api.OK}, {"1 1 1, 2 131072 1 | 1 1-2 131071", api.ErrLimit}, {"1 1 1, 2 131073 1 | 1 1-2 131072", api.ErrLimit}, {"1 1 -1, 2 1 -131071 | 1 1-2 131070", api.OK}, {"1 1 -1, 2 1 -131072 | 1 1-2 131071", api.ErrLimit},
		{"1 1 1, 2 65535 1, 3 65537 1, 4 131071 1 | 1 1-2 131070, 2 3-4 131070", api.OK}, {"1 1 1, 2 65535 1, 3 65535 1, 4 131071 1 | 1 1-2 131070, 2 3-4 131070", api.ErrLimit}, {"1 1 1, 2 65535 1 | 1 1-2 131070, 2 1-2 131070", api.OK}, {"1 1 1, 2 65535 1, 3 9 9, 4 9 9 | 1 1-2 131070, 2 1-2 131070, 5 3-4 1", api.ErrLimit},
		{"1 -1048576 -1048576, 2 1048576 1048576 | 1 1-2 3000000", api.ErrLimit},
	} {
		g, e := candidate.New(town(c.s), 2)
		if e != c.e || (g == nil) != (e != api.OK) {
			t.Errorf("%s: New: %d; want %d", c.s, e, c.e)
		}
		if e == api.OK && len(g.Cells()) < candidate.MaxPairs/2 {
			t.Errorf("%s: %d cells", c.s, len(g.Cells()))
		}
	}
}

func TestP22_3Errors(t *testing.T) {
	const long = "1 -1048576 -1048576, 2 1048576 1048576 | 1 1-2 3000000"
	for _, size := range []int{0, -1, -4, math.MinInt, api.MaxCoordinate + 1, math.MaxInt} {
		for _, s := range []string{example, "|", long} {
			if g, e := candidate.New(town(s), size); g != nil || e != api.ErrRange {
				t.Errorf("%s: New(%d): %d", s, size, e)
			}
		}
	}
	for _, size := range []int{1, api.MaxCoordinate} {
		if g, e := candidate.New(town(example), size); g == nil || e != api.OK {
			t.Errorf("New(%d): %d", size, e)
		}
	}
}

func TestP22_4(t *testing.T) {
	for _, n := range slanted() {
		for _, size := range []int{1, 2, 3, 7, 1 << 20} {
			g := grid(n, size)
			for _, p := range points() {
				for _, radius := range radii() {
					want := near(n, p, radius)
					if got := g.Find(p, radius); !slices.Equal(got, want) {
						t.Errorf("%s: Find(%v, %s) = %s; want %s", showTown(n), p, rational.Print(radius), show(got...), show(want...))
					}
				}
			}
		}
	}
}

func TestP22_4Best(t *testing.T) {
	for _, n := range slanted() {
		g := grid(n, 3)
		for _, p := range points() {
			for _, radius := range []string{"-1", "0", "1", "5", "100000000000000000000"} {
				all := g.Find(p, rat(radius))
				for most, want := range map[int]int{math.MinInt: 0, -1: 0, 0: 0, 1: 1, 2: 2, 5: 5, math.MaxInt: len(all)} {
					if got := g.Best(p, rat(radius), most); !slices.Equal(got, all[:min(want, len(all))]) {
						t.Errorf("%s: Best(%v, %s, %d) = %s; of %s", showTown(n), p, radius, most, show(got...), show(all...))
					}
				}
			}
		}
	}
}

// The candidates for a lesser radius are the first ones of those for a greater one.
func TestP22_6Radius(t *testing.T) {
	for _, n := range slanted() {
		for _, p := range points() {
			var before []candidate.Candidate
			for _, radius := range radii() {
				list := grid(n, 3).Find(p, radius)
				if len(list) < len(before) || !slices.Equal(list[:len(before)], before) {
					t.Errorf("%s: Find(%v, %s) = %s; for a lesser radius %s", showTown(n), p, rational.Print(radius), show(list...), show(before...))
				}
				before = list
			}
		}
	}
}

func TestP22_5(t *testing.T) {
	for _, n := range slanted() {
		for _, p := range points() {
			all := candidate.Scan(n, p, rat("10000000000000000000000000"))
			for _, size := range []int{1, 3, 1 << 20} {
				c, found := grid(n, size).Closest(p)
				if found != (len(n.Roads) > 0) || found && c != all[0] || !found && c != (candidate.Candidate{}) {
					t.Errorf("%s: Closest(%v) = %s, %v; all are %s", showTown(n), p, show(c), found, show(all...))
				}
			}
		}
	}
}

// The only road is as far away as it can be.
func TestP22_5Far(t *testing.T) {
	for _, c := range []struct{ s, p, want string }{
		{"1 1048576 1048576, 2 1048576 1048576 | 3 1-2 1", "-1048576,-1048576", "3@0 8796093022208"}, {"1 -1048576 1048576, 2 -1048576 1048576 | 3 1-2 1", "1048576,-1048576", "3@0 8796093022208"}, {"1 -1048576 1048575, 2 -1048576 1048576 | 3 1-2 1", "1048577,-1048578", "3@0 8796101410818"}, {"1 -1048576 1048576, 2 -1048576 1048576 | 3 1-2 1", "-1048576,-4000000000", "3@0 16008389707511627776"},
	} {
		want := candidate.Scan(town(c.s), point(c.p), rat("100000000000000000000"))
		for _, size := range []int{1, 5, 1 << 20} {
			got, found := grid(town(c.s), size).Closest(point(c.p))
			if !found || show(got) != c.want || got != want[0] {
				t.Errorf("%s: Closest(%s) = %s, %v; want %s", c.s, c.p, show(got), found, c.want)
			}
		}
	}
}

// What is found does not depend on the size of the cells, nor on the road that is nearest being in the same cell.
func TestP22_6Sizes(t *testing.T) {
	const s = "1 -900 40, 2 1000 -37, 3 333 444, 4 -21 -800 | 1 1-2 2000, 2 2>3 900, 3 4-3 1400, 6 1-4 1300"
	n := town(s)
	for _, p := range []string{"0,0", "100,-100", "-500,1/3", "999,-999", "333,444", "5000,1"} {
		for _, radius := range []string{"0", "17", "250", "700", "5000"} {
			want := candidate.Scan(n, point(p), rat(radius))
			closest, _ := grid(n, 1<<20).Closest(point(p))
			for _, size := range []int{1, 2, 9, 64, 500, 1000, 4000} {
				g := grid(n, size)
				if got := g.Find(point(p), rat(radius)); !slices.Equal(got, want) {
					t.Errorf("Find(%s, %s) = %s with cells of the size %d; want %s", p, radius, show(got...), size, show(want...))
				}
				if got, found := g.Closest(point(p)); !found || got != closest {
					t.Errorf("Closest(%s) = %s with cells of the size %d; want %s", p, show(got), size, show(closest))
				}
			}
		}
	}
}

func TestContractNil(t *testing.T) {
	var g *candidate.Grid
	c, found := g.Closest(point("0,0"))
	if found || c != (candidate.Candidate{}) || g.Cells() != nil || g.Roads(candidate.Cell{}) != nil || g.Find(point("0,0"), rat("1")) != nil || g.Best(point("0,0"), rat("1"), 3) != nil {
		t.Error("a nil grid")
	}
}

// A grid neither keeps what it is made from, nor gives away what it keeps.
func TestContractMemory(t *testing.T) {
	n := town("1 0 0, 2 4 0, 3 4 4 | 5 1-2 8, 6 3-2 4")
	g := grid(n, 2)
	middle := candidate.Cell{X: 1, Y: 0}
	check := func() {
		t.Helper()
		if len(g.Cells()) != 12 || g.Cells()[0] != (candidate.Cell{X: -1, Y: -1}) || !slices.Equal(g.Roads(middle), []int{5, 6}) || show(g.Find(point("3,1"), rat("9"))...) != "5@6 1, 6@3 1" {
			t.Errorf("the grid has changed: %v, %v, %s", g.Cells(), g.Roads(middle), show(g.Find(point("3,1"), rat("9"))...))
		}
	}
	check()
	n.Nodes[1].X, n.Roads[0].Id, n.Roads[1].Length = 1000, 77, 9
	check()
	cells, ids, found := g.Cells(), g.Roads(middle), g.Find(point("3,1"), rat("9"))
	clear(cells[:cap(cells)])
	clear(ids[:cap(ids)])
	clear(found[:cap(found)])
	check()
	other := town(example)
	grid(other, 2).Closest(point("1,1"))
	if showTown(other) != example {
		t.Errorf("the argument is %s", showTown(other))
	}
}
