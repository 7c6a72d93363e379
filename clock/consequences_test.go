package clock_test

import (
	"math"
	"slices"
	"testing"

	"viator/api"
	"viator/clock"
	"viator/draws"
)

// Messages between clocks with some offsets, none of them faster than its Least.
func TestP26_6Offsets(t *testing.T) {
	draw := draws.From(11)
	narrow := 0
	for range 400 {
		var offsets [5]int
		for d := range 4 {
			offsets[d+1] = draw(200) - 100
		}
		var l []api.Exchange
		widest := [5]clock.Bounds{}
		for d := range widest {
			widest[d] = clock.Bounds{Low: math.MinInt, High: math.MaxInt}
		}
		for range draw(16) {
			from := draw(5)
			to := (from + 1 + draw(4)) % 5
			sent, least := 1000+draw(500), draw(20) // by the clock of the server
			l = append(l, api.Exchange{From: from, To: to, Sent: sent + offsets[from], Received: sent + least + draw(20) + offsets[to], Least: least})
			for d := 1; d < 5; d++ {
				if _, found := clock.Cycle(l, d); found {
					t.Fatalf("%s is a contradiction", show(l))
				}
				b, e := clock.Offset(l, d)
				if e == api.ErrUnreachable || len(clock.Component(l, d)) == 1 {
					continue
				}
				// Further messages make the bounds narrower only.
				if e != api.OK || offsets[d] < b.Low || offsets[d] > b.High || b.Low < widest[d].Low || b.High > widest[d].High {
					t.Errorf("Offset(%s; %d) = %v, %d; it is %d, and within %v", show(l), d, b, e, offsets[d], widest[d])
				}
				widest[d] = b
				narrow++
			}
		}
	}
	if narrow < 1000 {
		t.Errorf("%d bounds", narrow)
	}
}

// A further exchange from 0.
func TestP26_6Further(t *testing.T) {
	count := map[bool]int{}
	for _, l := range systems() {
		for _, d := range devices[1:6] {
			b, e := clock.Offset(l, d)
			if e != api.OK || len(clock.Component(l, d)) == 1 {
				continue
			}
			for w := b.Low - 2; w <= b.High+2; w++ {
				more := append(slices.Clone(l), api.Exchange{To: d, Sent: 100, Received: 105 + w, Least: 5})
				got, e := clock.Offset(more, d)
				_, found := clock.Cycle(more, 0)
				count[found]++
				if found != (w < b.Low) || found != (e == api.ErrInfeasible) || !found && got != (clock.Bounds{Low: b.Low, High: min(b.High, w)}) {
					t.Errorf("Offset(%s; %d) = %v, %d; before the last exchange %v", show(more), d, got, e, b)
				}
			}
		}
	}
	if min(count[false], count[true]) < 500 {
		t.Errorf("contradictions or not: %v", count)
	}
}

// The order of exchanges, repetitions, and exchanges of other components.
func TestP26_6Order(t *testing.T) {
	draw := draws.From(5)
	for _, l := range systems() {
		other := append(slices.Clone(l), exchanges("20>21 4, 21>20 -9, 22>20 1")...)
		for range draw(4) {
			other = append(other, other[draw(len(other))])
		}
		for k := range other {
			j := draw(k + 1)
			other[k], other[j] = other[j], other[k]
		}
		for _, d := range devices {
			b, e := clock.Offset(l, d)
			if got, f := clock.Offset(other, d); got != b || f != e {
				t.Errorf("Offset(%s; %d) = %v, %d; without the order %v, %d", show(other), d, got, f, b, e)
			}
		}
	}
}

// Results share no memory with arguments, and arguments do not change.
func TestP26Arguments(t *testing.T) {
	const s = "3>0 2, 2>3 2, 1>2 2, 0>1 -6, 8>9 3, 9>8 -4"
	l := exchanges(s)
	up, down, _ := clock.Chains(l, 3)
	cycle, _ := clock.Cycle(l, 9)
	clock.Offset(l, 3)
	clock.Correct(l, api.Report{Device: 3})
	if !slices.Equal(up, []int{3, 2, 1}) || !slices.Equal(down, []int{0}) || len(cycle) != 2 {
		t.Errorf("Chains = %v, %v; Cycle = %v", up, down, cycle)
	}
	clear(up[:cap(up)])
	if _, sum, valid := follow(l, down, 3); !valid || sum != 2 {
		t.Errorf("the chain down became %v", down)
	}
	for _, list := range [][]int{clock.Devices(l), clock.Component(l, 8), cycle} {
		clear(list[:cap(list)])
	}
	chain := []int{3, 2, 1}
	if sum, e := clock.Sum(l, chain, 0, 3); sum != -2 || e != api.OK || !slices.Equal(chain, []int{3, 2, 1}) || show(l) != s {
		t.Errorf("the arguments are %v and %s", chain, show(l))
	}
}

// As many exchanges as permitted: a line of devices, its contradictions, and a ring.
func TestP26Many(t *testing.T) {
	const half = api.MaxReports / 2
	line := func(w int) []api.Exchange {
		var l []api.Exchange
		for k := half - 1; k >= 0; k-- {
			l = append(l, api.Exchange{From: k, To: k + 1, Received: 1 << 30}, api.Exchange{From: k + 1, To: k, Sent: 1 << 30, Received: 1 << 29, Least: w})
		}
		return l
	}
	l := line(1 << 29)
	if e := clock.Check(l); e != api.OK {
		t.Fatalf("Check = %d", e)
	}
	for _, d := range []int{1, 2, 1000, half} {
		if b, e := clock.Offset(l, d); b != (clock.Bounds{Low: d << 30, High: d << 30}) || e != api.OK {
			t.Errorf("Offset(%d) = %v, %d", d, b, e)
		}
	}
	if got, e := clock.Correct(l, api.Report{Device: 9, Time: 1 << 40}); got.Num.Mag == "" || e != api.OK {
		t.Errorf("Correct = %v, %d", got, e)
	}
	l = line(1<<29 + 1)
	cycle, found := clock.Cycle(l, half)
	if _, sum, valid := follow(l, cycle, l[cycle[0]].From); !found || !valid || sum >= 0 {
		t.Errorf("Cycle has %d exchanges, and the sum %d", len(cycle), sum)
	}
	// A ring is a contradiction as a whole only.
	var ring []api.Exchange
	for k := range api.MaxReports {
		ring = append(ring, api.Exchange{From: k, To: (k + 1) % api.MaxReports, Sent: 9, Received: 9 + 3*(k%2)})
	}
	ring[100].Least = 1 << 14
	cycle, found = clock.Cycle(ring, 7)
	if _, sum, valid := follow(ring, cycle, ring[cycle[0]].From); !found || !valid || sum >= 0 || len(cycle) != len(ring) {
		t.Errorf("Cycle has %d exchanges, and the sum %d", len(cycle), sum)
	}
	ring[100].Least = 3 * half
	if cycle, found = clock.Cycle(ring, 7); found || len(cycle) > 0 {
		t.Errorf("Cycle has %d exchanges", len(cycle))
	}
	if b, e := clock.Offset(ring, api.MaxReports-1); b != (clock.Bounds{Low: -3, High: -3}) || e != api.OK {
		t.Errorf("Offset = %v, %d", b, e)
	}
}

// As many devices as there can be in a component.
func TestP26ManyDevices(t *testing.T) {
	var l []api.Exchange
	for k := range api.MaxReports {
		l = append(l, api.Exchange{To: 1 + k, Sent: k + 1})
	}
	for _, d := range []int{1, api.MaxReports} {
		if got := clock.Component(l, d); len(got) != api.MaxReports+1 || got[0] != 0 || got[api.MaxReports] != api.MaxReports {
			t.Errorf("Component(%d) has %d devices", d, len(got))
		}
		if cycle, found := clock.Cycle(l, d); found || len(cycle) > 0 {
			t.Errorf("Cycle(%d) = %v, %v", d, cycle, found)
		}
		if b, e := clock.Offset(l, d); b != (clock.Bounds{}) || e != api.ErrUnreachable {
			t.Errorf("Offset(%d) = %v, %d", d, b, e)
		}
	}
}

// Nothing is specified for exchanges that Check refuses; but nothing panics, and everything ends.
func TestInvalid(t *testing.T) {
	const most = "9223372036854775807"
	for _, s := range []string{
		"0>0 -5", "3>3 -5, 3>0 1, 0>3 1", "-1>-2 3, -2>-1 -4, -1>0 0", "0>1 0 " + most + " 0, 1>2 0 " + most + " 0, 2>1 1", "0>1 0 " + most + " 0, 1>2 0 " + most + " 0, 2>1 1, 2>0 -9223372036854775807", "0>1 -9223372036854775808 " + most + " -9223372036854775808, 1>0 -" + most + " " + most + " 0",
	} {
		l := exchanges(s)
		call(l)
		call(slices.Repeat(l, api.MaxReports))
	}
	var long []api.Exchange
	for k := range 3 * api.MaxReports {
		long = append(long, api.Exchange{From: k, To: k + 1, Received: 1 << 30, Least: k}, api.Exchange{From: k + 1, To: k, Sent: k})
	}
	call(long)
	if cycle, found := clock.Cycle(long, 1); found || len(cycle) > 0 {
		t.Errorf("Cycle of too many exchanges = %v, %v", cycle, found)
	}
	if b, e := clock.Offset(long, 1); b != (clock.Bounds{}) || e != api.ErrLimit {
		t.Errorf("Offset of too many exchanges = %v, %d", b, e)
	}
}

// call calls all functions with a list.
func call(l []api.Exchange) {
	clock.Check(l)
	clock.Devices(l)
	for _, d := range []int{0, 1, 3, -1, math.MaxInt, math.MinInt} {
		clock.Component(l, d)
		clock.Offset(l, d)
		clock.Chains(l, d)
		clock.Cycle(l, d)
		clock.Sum(l, []int{0, 1, 2, -7, math.MaxInt}, d, 0)
		clock.Middle(clock.Bounds{Low: d, High: d})
		clock.Correct(l, api.Report{Device: d, Time: d})
	}
}
