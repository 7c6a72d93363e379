package belief_test

import (
	"math"
	"slices"
	"testing"

	"viator/api"
	"viator/belief"
	"viator/movingpoint"
	"viator/reconstruct"
)

func TestP30_3Examples(t *testing.T) {
	l := logOf(t, usual, batches("1.0", "1.2 t4 x4", "1.1 t2 x2 y2, 2.0 d1", "| 0>1 5", "2.0 v1 t7")...)
	objects := []string{"", "1: [0 0] 0 0", "1: [0 4] 0,1 0", "1: [0 2] 0,1 0,1; (2 4] 0,1 4,-1 | 2: [0 0] 0 0", "1: [0 2] 0,1 0,1; (2 4] 0,1 4,-1", "1: [0 2] 0,1 0,1; (2 4] 0,1 4,-1 | 2: [7 7] 0 0"}
	for _, horizon := range []int{0, 2, 5} {
		l.Forget(horizon)
		for n, want := range objects {
			e := api.OK
			if n < horizon {
				want, e = "", api.ErrBelief
			}
			if got, f := l.Objects(n); showObjects(got) != want || f != e {
				t.Errorf("Objects(%d) = %s, %d; want %s, %d", n, showObjects(got), f, want, e)
			}
		}
	}
	l = logOf(t, usual, batches("1.0", "1.2 t4 x4", "1.1 t2 x2 y2")...)
	for n, want := range []string{"", "[0 0] 0 0", "[0 4] 0,1 0", "[0 2] 0,1 0,1; (2 4] 0,1 4,-1"} {
		if got, e := l.Trajectory(n, 1); showUnits(got) != want || e != api.OK {
			t.Errorf("Trajectory(%d, 1) = %s, %d; want %s", n, showUnits(got), e, want)
		}
		for _, id := range []int{2, 0, -1, math.MaxInt} {
			if got, e := l.Trajectory(n, id); len(got) != 0 || e != api.OK {
				t.Errorf("Trajectory(%d, %d) = %s, %d", n, id, showUnits(got), e)
			}
		}
	}
}

func TestP30_3(t *testing.T) {
	forgotten := 0
	logs(t, 100, func(l *belief.Log, history []api.Batch, s api.Settings, horizon int) {
		forgotten += horizon
		for n := -1; n <= len(history)+1; n++ {
			x, e := l.AsOf(n)
			objects, f := l.Objects(n)
			if n < horizon || n > len(history) {
				if x != nil || e != api.ErrBelief || len(objects) != 0 || f != api.ErrBelief {
					t.Errorf("AsOf(%d) = %v, %d, and Objects = %s, %d", n, x, e, showObjects(objects), f)
				}
				if got, e := l.Trajectory(n, 1); len(got) != 0 || e != api.ErrBelief {
					t.Errorf("Trajectory(%d, 1) = %s, %d", n, showUnits(got), e)
				}
				continue
			}
			y := known(t, history, n)
			if !x.Equal(y) || e != api.OK {
				t.Errorf("AsOf(%d) = %s, %d", n, showBatch(x.Without(nil)), e)
			}
			if want, _ := reconstruct.Objects(y, s); showObjects(objects) != showObjects(want) || f != api.OK {
				t.Errorf("Objects(%d) = %s, %d; want %s", n, showObjects(objects), f, showObjects(want))
			}
			for id := range 5 {
				want, _ := reconstruct.Trajectory(y, id, s)
				if got, e := l.Trajectory(n, id); showUnits(got) != showUnits(want) || e != api.OK {
					t.Errorf("Trajectory(%d, %d) = %s, %d; want %s", n, id, showUnits(got), e, showUnits(want))
				}
			}
		}
	})
	if forgotten < 30 {
		t.Errorf("%d beliefs are forgotten", forgotten)
	}
}

// Too many reports of an object with a time, and too many objects, in some beliefs only.
func TestP30_3Errors(t *testing.T) {
	var fleet []api.Report
	for id := 1; id <= 66; id++ {
		fleet = append(fleet, api.Report{Object: id})
	}
	l := logOf(t, usual, api.Batch{Reports: crowd(2, 256)}, batch("2.256 t256, 3.0"), batch("2.7 v1 c, 3.0 v1 c, 4.0"), api.Batch{Reports: fleet})
	for n, want := range []api.Errno{api.OK, api.OK, api.ErrLimit, api.OK, api.ErrLimit} {
		if got, e := l.Objects(n); e != want || e != api.OK && len(got) != 0 {
			t.Errorf("Objects(%d) = %s, %d; want %d", n, showObjects(got), e, want)
		}
		if n == 4 {
			want = api.OK
		}
		if got, e := l.Trajectory(n, 2); e != want || (len(got) == 1) != (e == api.OK && n > 0) {
			t.Errorf("Trajectory(%d, 2) = %s, %d; want %d", n, showUnits(got), e, want)
		}
		if got, e := l.Trajectory(n, 1); e != api.OK || len(got) != n/4 {
			t.Errorf("Trajectory(%d, 1) = %s, %d", n, showUnits(got), e)
		}
		for other := range 5 {
			changed, e := l.Changed(other, n)
			if (e == api.ErrLimit) != (n == 2 || other == 2) || e != api.OK && len(changed) != 0 {
				t.Errorf("Changed(%d, %d) = %v, %d", other, n, changed, e)
			}
		}
	}
	if h, e := l.History(2, rat("4")); len(h) != 0 || e != api.ErrLimit {
		t.Errorf("History(2) = %s, %d", showEntries(h), e)
	}
	if h, e := l.History(3, rat("0")); showEntries(h) != "2: 0; 3: nowhere" || e != api.OK {
		t.Errorf("History(3) = %s, %d", showEntries(h), e)
	}
	// Beliefs that are forgotten do no harm.
	l.Forget(3)
	if h, e := l.History(2, rat("4")); showEntries(h) != "3: 0" || e != api.OK {
		t.Errorf("History(2) = %s, %d", showEntries(h), e)
	}
	if c, e := l.Changed(2, 3); len(c) != 0 || e != api.ErrBelief {
		t.Errorf("Changed(2, 3) = %v, %d", c, e)
	}
	// Another object has the error, which no longer exists in the other belief.
	l = logOf(t, usual, api.Batch{Reports: crowd(5, 257)}, batch("1.0"))
	if c, e := l.Changed(0, 2); len(c) != 0 || e != api.ErrLimit {
		t.Errorf("Changed(0, 2) = %v, %d", c, e)
	}
	if c, e := l.Changed(2, 0); len(c) != 0 || e != api.ErrLimit {
		t.Errorf("Changed(2, 0) = %v, %d", c, e)
	}
	if h, e := l.History(1, rat("0")); showEntries(h) != "2: 0" || e != api.OK {
		t.Errorf("History(1) = %s, %d", showEntries(h), e)
	}
}

func TestP30_4Examples(t *testing.T) {
	l := logOf(t, usual, batches("1.0", "1.2 t4 x4, 1.2 t4 x4", "1.1 t2 x2 y2, 1.0", "", "7.0 t3 x9, 1.1 t2 x2 y2", "7.0 v1 c, 1.5 c, 3.0 d1", "2.0 t4, 1.3 t3 x3 y1", "| 0>1 5", "| 1>0 -5")...)
	for _, c := range []struct {
		a, b int
		want []int
		e    api.Errno
	}{
		{1, 1, nil, api.OK}, {1, 3, []int{1}, api.OK}, {3, 4, nil, api.OK}, {0, 5, []int{1, 7}, api.OK}, {5, 3, []int{7}, api.OK}, {4, 6, []int{3}, api.OK}, {5, 6, []int{3, 7}, api.OK}, {6, 7, []int{2}, api.OK}, {0, 0, nil, api.OK}, {0, 9, []int{1, 2, 3}, api.OK}, {9, 0, []int{1, 2, 3}, api.OK}, {7, 8, []int{3}, api.OK}, {8, 9, []int{3}, api.OK}, {7, 9, []int{3}, api.OK}, {6, 9, []int{2, 3}, api.OK}, {5, 8, []int{2, 7}, api.OK},
		{0, 10, nil, api.ErrBelief}, {10, 0, nil, api.ErrBelief}, {-1, 0, nil, api.ErrBelief}, {0, -1, nil, api.ErrBelief}, {math.MinInt, math.MaxInt, nil, api.ErrBelief},
	} {
		if got, e := l.Changed(c.a, c.b); !slices.Equal(got, c.want) || e != c.e {
			t.Errorf("Changed(%d, %d) = %v, %d; want %v, %d", c.a, c.b, got, e, c.want, c.e)
		}
	}
}

func TestP30_4(t *testing.T) {
	count := 0
	logs(t, 60, func(l *belief.Log, history []api.Batch, s api.Settings, horizon int) {
		for a := -1; a <= len(history)+1; a++ {
			for b := -1; b <= len(history)+1; b++ {
				var want []int
				isKept := min(a, b) >= horizon && max(a, b) <= len(history)
				for id := 1; id < 5 && isKept; id++ {
					old, _ := reconstruct.Trajectory(known(t, history, a), id, s)
					now, _ := reconstruct.Trajectory(known(t, history, b), id, s)
					if !movingpoint.Same(old, now) {
						want = append(want, id)
					}
				}
				count += len(want)
				if got, e := l.Changed(a, b); !slices.Equal(got, want) || (e == api.OK) != isKept || !isKept && e != api.ErrBelief {
					t.Errorf("Changed(%d, %d) = %v, %d; want %v", a, b, got, e, want)
				}
			}
		}
	})
	if count < 500 {
		t.Errorf("%d objects change", count)
	}
}

func TestP30_5Examples(t *testing.T) {
	all := batches("1.0", "1.2 t4 x4", "1.1 t2 x2 y2", "", "1.1 t2 x2 y2, 7.0 t3 x9", "1.1 v1 c", "1.2 v1 c, 7.0 v1 t3 x8", "1.2 v2 t4 x4")
	for _, c := range []struct {
		object, horizon int
		at, want        string
	}{
		{1, 0, "1", "2: 1; 3: 1,1; 6: 1; 7: nowhere; 8: 1"}, {1, 1, "1", "2: 1; 3: 1,1; 6: 1; 7: nowhere; 8: 1"}, {1, 2, "1", "2: 1; 3: 1,1; 6: 1; 7: nowhere; 8: 1"}, {1, 4, "1", "4: 1,1; 6: 1; 7: nowhere; 8: 1"}, {1, 7, "1", "8: 1"}, {1, 8, "1", "8: 1"}, {1, 0, "0", "1: 0"}, {1, 6, "0", "6: 0"}, {1, 0, "4", "2: 4; 7: nowhere; 8: 4"}, {1, 0, "9/2", ""}, {1, 0, "-1", ""}, {1, 0, "7/2", "2: 7/2; 3: 7/2,1/2; 6: 7/2; 7: nowhere; 8: 7/2"}, {7, 0, "3", "5: 9; 7: 8"}, {7, 6, "3", "6: 9; 7: 8"}, {7, 0, "2", ""}, {2, 0, "1", ""}, {0, 0, "0", ""}, {-5, 0, "0", ""}, {math.MaxInt, 0, "0", ""},
	} {
		l := logOf(t, usual, all...)
		l.Forget(c.horizon)
		if got, e := l.History(c.object, rat(c.at)); showEntries(got) != c.want || e != api.OK {
			t.Errorf("behind %d, History(%d, %s) = %s, %d; want %s", c.horizon, c.object, c.at, showEntries(got), e, c.want)
		}
	}
	if got, e := logOf(t, usual).History(1, rat("0")); len(got) != 0 || e != api.OK {
		t.Errorf("History of an empty log = %s, %d", showEntries(got), e)
	}
}

func TestP30_5(t *testing.T) {
	count, nowhere := 0, 0
	logs(t, 250, func(l *belief.Log, all []api.Batch, s api.Settings, horizon int) {
		for id := range 4 {
			for _, at := range times() {
				want := history(t, all, s, horizon, id, at)
				got, e := l.History(id, at)
				if !slices.Equal(got, want) || e != api.OK {
					t.Errorf("History(%d, %s) = %s, %d; want %s", id, printed(at), showEntries(got), e, showEntries(want))
				}
				count += len(want)
				for _, x := range want {
					if !x.Defined {
						nowhere++
					}
				}
			}
		}
	})
	if count < 500 || nowhere < 30 {
		t.Errorf("%d entries, %d of them nowhere", count, nowhere)
	}
}
