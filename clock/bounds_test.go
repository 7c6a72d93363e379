package clock_test

import (
	"slices"
	"testing"

	"viator/api"
	"viator/clock"
)

func TestP26_3Examples(t *testing.T) {
	for _, c := range []struct {
		s         string
		device    int
		low, high int
		e         api.Errno
	}{
		{"0>1 10 17 2, 1>0 20 16 1", 1, 5, 5, api.OK}, {"0>1 5, 1>0 -4", 1, 4, 5, api.OK}, {"0>1 5, 1>0 -6", 1, 0, 0, api.ErrInfeasible}, {"0>1 5", 1, 0, 0, api.ErrUnreachable}, {"1>0 5", 1, 0, 0, api.ErrUnreachable},
		// The server, and devices that have exchanged nothing.
		{"0>1 5, 1>0 -6", 0, 0, 0, api.OK}, {"0>1 5, 1>0 -6", 2, 0, 0, api.OK}, {"0>1 5", 0, 0, 0, api.OK}, {"0>1 5, 1>0 -4", 0, 0, 0, api.OK}, {"", 0, 0, 0, api.OK}, {"", 1 << 30, 0, 0, api.OK}, {"", -1, 0, 0, api.ErrId}, {"", 1<<30 + 1, 0, 0, api.ErrId}, {"0>1 5, 1>0 -6", -1, 0, 0, api.ErrId},
		// A contradiction elsewhere, which is connected or not, reachable or not.
		{"0>1 5, 1>0 -4, 2>3 1, 3>2 -2", 1, 4, 5, api.OK}, {"0>1 5, 1>0 -4, 2>3 1, 3>2 -2", 2, 0, 0, api.ErrInfeasible}, {"0>1 5, 1>0 -4, 2>3 1, 3>2 -2, 1>3 9", 1, 0, 0, api.ErrInfeasible}, {"0>1 5, 1>0 -4, 2>3 1, 3>2 -2, 3>1 9", 1, 0, 0, api.ErrInfeasible}, {"0>1 5, 2>3 1, 3>2 -2, 3>1 9", 1, 0, 0, api.ErrInfeasible}, {"2>3 1, 3>2 -2, 3>0 9", 2, 0, 0, api.ErrInfeasible}, {"2>3 1, 3>2 -1", 2, 0, 0, api.ErrUnreachable}, {"0>1 5, 1>0 -4, 2>3 1", 2, 0, 0, api.ErrUnreachable},
		// Chains of several exchanges, and the best of several ones.
		{"0>1 9, 0>2 3, 2>1 4, 1>2 1, 2>0 6", 1, -7, 7, api.OK}, {"0>1 9, 0>1 7, 0>1 8, 1>0 3, 1>0 -2, 1>0 0", 1, 2, 7, api.OK}, {"0>1 1, 1>2 1, 2>3 1, 3>0 1", 2, -2, 2, api.OK}, {"0>1 -3, 1>2 -4, 2>0 7", 1, -3, -3, api.OK}, {"0>1 -3, 1>2 -4, 2>0 7", 2, -7, -7, api.OK}, {"0>1 -3, 1>2 -4, 2>0 6", 2, 0, 0, api.ErrInfeasible}, {"3>0 2, 2>3 2, 1>2 2, 0>1 -6", 3, -2, -2, api.OK}, {"0>1 4, 1>0 4, 2>1 0", 2, 0, 0, api.ErrUnreachable}, {"0>1 4, 1>0 4, 1>2 0", 2, 0, 0, api.ErrUnreachable},
		// Great weights.
		{"0>1 0 1073741824 0, 1>0 0 1073741824 0", 1, -1 << 30, 1 << 30, api.OK}, {"0>1 0 1073741824 0, 1>2 0 1073741824 0, 2>0 1073741824 0 1073741824", 2, 1 << 31, 1 << 31, api.OK}, {"0>1 1073741824 0 1073741824, 1>0 0 1073741824 0", 1, 0, 0, api.ErrInfeasible},
	} {
		got, e := clock.Offset(exchanges(c.s), c.device)
		if got != (clock.Bounds{Low: c.low, High: c.high}) || e != c.e {
			t.Errorf("Offset(%s; %d) = %v, %d; want %d, %d, %d", c.s, c.device, got, e, c.low, c.high, c.e)
		}
	}
}

func TestP26_3(t *testing.T) {
	count := map[api.Errno]int{}
	for _, l := range systems() {
		for _, d := range devices {
			low, high, want := bounds(l, d)
			got, e := clock.Offset(l, d)
			if got != (clock.Bounds{Low: low, High: high}) || e != want {
				t.Errorf("Offset(%s; %d) = %v, %d; want %d, %d, %d", show(l), d, got, e, low, high, want)
			}
			if low != 0 || high != 0 || e != api.OK {
				count[e]++
			}
		}
	}
	if count[api.OK] < 300 || count[api.ErrUnreachable] < 300 || count[api.ErrInfeasible] < 300 {
		t.Errorf("the numbers of the errors are %v", count)
	}
}

func TestP26_4Chains(t *testing.T) {
	for _, l := range systems() {
		for _, d := range devices {
			low, high, want := bounds(l, d)
			up, down, e := clock.Chains(l, d)
			if e != want {
				t.Errorf("Chains(%s; %d): %d; want %d", show(l), d, e, want)
			}
			if e != api.OK || d == 0 || low == 0 && high == 0 && len(component(l, d)) == 1 {
				if len(up) > 0 || len(down) > 0 {
					t.Errorf("Chains(%s; %d) = %v, %v", show(l), d, up, down)
				}
				continue
			}
			if to, sum, valid := follow(l, up, 0); to != d || sum != high || !valid {
				t.Errorf("Chains(%s; %d): the chain up is %v; want one with the sum %d", show(l), d, up, high)
			}
			if to, sum, valid := follow(l, down, d); to != 0 || sum != -low || !valid {
				t.Errorf("Chains(%s; %d): the chain down is %v; want one with the sum %d", show(l), d, down, -low)
			}
		}
	}
}

func TestP26_4Cycle(t *testing.T) {
	kinds := map[int]int{}
	for _, l := range systems() {
		for _, d := range devices {
			cycle, found := clock.Cycle(l, d)
			if found != contradicted(l, d) {
				t.Errorf("Cycle(%s; %d) = %v, %v", show(l), d, cycle, found)
			}
			if !found {
				if len(cycle) > 0 {
					t.Errorf("Cycle(%s; %d) = %v, %v", show(l), d, cycle, found)
				}
				continue
			}
			checkCycle(t, l, d, cycle)
			kinds[len(cycle)]++
		}
	}
	if kinds[2] < 100 || kinds[3] < 100 || kinds[4] < 20 {
		t.Errorf("the numbers of contradictions by their lengths are %v", kinds)
	}
}

// checkCycle tests that exchanges are a contradiction within the component of a device.
func checkCycle(t *testing.T, l []api.Exchange, d int, cycle []int) {
	t.Helper()
	if len(cycle) == 0 {
		t.Errorf("Cycle(%s; %d) is empty", show(l), d)
		return
	}
	first := l[cycle[0]].From
	if to, sum, valid := follow(l, cycle, first); to != first || sum >= 0 || !valid {
		t.Errorf("Cycle(%s; %d) = %v is no contradiction", show(l), d, cycle)
	}
	for _, k := range cycle {
		if !slices.Contains(component(l, d), l[k].From) {
			t.Errorf("Cycle(%s; %d) = %v is in another component", show(l), d, cycle)
		}
	}
}

func TestP26_4CycleExamples(t *testing.T) {
	for _, c := range []struct {
		s      string
		device int
		found  bool
	}{
		{"", 0, false}, {"", -1, false}, {"0>1 5, 1>0 -5", 0, false}, {"0>1 5, 1>0 -6", 0, true}, {"0>1 5, 1>0 -6", 1, true}, {"0>1 5, 1>0 -6", 2, false}, {"0>1 5, 1>0 -6", -1, false}, {"3>4 5, 4>3 -6", 3, true}, {"3>4 5, 4>3 -6", 0, false}, {"3>4 5, 4>3 -6, 4>7 1", 7, true}, {"3>4 5, 4>3 -6, 7>4 1", 7, true}, {"0>1 -9", 0, false}, {"0>1 -9, 1>2 -9, 0>2 -9", 0, false}, {"0>1 -3, 1>2 -4, 2>3 -1, 3>0 8", 0, false}, {"0>1 -3, 1>2 -4, 2>3 -1, 3>0 7", 0, true},
	} {
		l := exchanges(c.s)
		cycle, found := clock.Cycle(l, c.device)
		if found != c.found || !found && len(cycle) > 0 {
			t.Errorf("Cycle(%s; %d) = %v, %v", c.s, c.device, cycle, found)
		}
		if found {
			checkCycle(t, l, c.device, cycle)
		}
	}
}
