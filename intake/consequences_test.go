package intake_test

import (
	"slices"
	"strconv"
	"strings"
	"testing"

	"viator/api"
	"viator/draws"
	"viator/intake"
	"viator/notation"
	"viator/rational"
)

// says returns all that an intake says.
func says(x *intake.Intake) string {
	w, found := x.Watermark()
	parts := []string{show(x.Without(nil)), notation.ShowReports(x.Reports()), notation.ShowExchanges(x.Exchanges()), number(w, found, rational.Print)}
	for _, id := range append(x.Objects(), -7, 1, 2, 3) {
		n, found := x.Complete(id)
		f, is := x.Frontier(id)
		late, e := x.Late(api.Report{Object: max(id, 1), Time: 14, Device: 1})
		parts = append(parts, strconv.Itoa(id), number(n, found, strconv.Itoa), number(f, is, rational.Print), showTimed(x.Of(id)), notation.ShowReports(x.Untimed(id)), showTimed(x.Pending(id)), strconv.FormatBool(late), strconv.Itoa(int(e)))
	}
	return strings.Join(parts, "\n")
}

// shuffled returns the elements of a list in another order, some of them twice.
func shuffled[A any](l []A, draw func(below int) int) []A {
	l = slices.Clone(l)
	for range min(draw(3), len(l)) {
		l = append(l, l[draw(len(l))])
	}
	for k := range l {
		j := draw(k + 1)
		l[k], l[j] = l[j], l[k]
	}
	return l
}

func TestP27_8Order(t *testing.T) {
	draw := draws.From(17)
	for _, history := range histories() {
		x := of(t, history...)
		want := says(x)
		all := join(history...)
		for range 3 {
			y := intake.New()
			for _, r := range shuffled(all.Reports, draw) {
				y.Add(api.Batch{Reports: []api.Report{r}})
			}
			y.Add(api.Batch{Exchanges: shuffled(all.Exchanges, draw)})
			z := of(t, shuffled(history, draw)...)
			if !x.Equal(y) || says(y) != want || !x.Equal(z) || says(z) != want {
				t.Errorf("another order of %s leads to something else", show(all))
			}
		}
		if says(x.Clone()) != want {
			t.Errorf("the clone of %s says something else", show(all))
		}
	}
}

func TestP27_8Merge(t *testing.T) {
	all := histories()
	for k, history := range all {
		a, b := of(t, history...), of(t, all[(k*5+3)%len(all)]...)
		left, right, added := a.Clone(), b.Clone(), a.Clone()
		left.Merge(b)
		right.Merge(a)
		missing := b.Without(a)
		if n, e := added.Add(missing); n != size(missing) || e != api.OK {
			t.Errorf("Add(%s) = %d, %d", show(missing), n, e)
		}
		if !left.Equal(right) || !left.Equal(added) || says(left) != says(right) || says(left) != says(added) {
			t.Errorf("merging %s and %s does not commute", show(a.Without(nil)), show(b.Without(nil)))
		}
		if size(a.Without(left)) > 0 || size(b.Without(left)) > 0 {
			t.Errorf("the union does not contain %s", show(a.Without(nil)))
		}
	}
}

func TestP27_8Growth(t *testing.T) {
	for _, history := range histories() {
		x := intake.New()
		for _, b := range history {
			before := x.Clone()
			x.Add(b)
			for _, id := range objects {
				old, was := before.Complete(id)
				now, is := x.Complete(id)
				if was && (!is || now < old) {
					t.Errorf("with %s, the object %d is complete up to %d instead of %d", show(b), id, now, old)
				}
			}
		}
	}
}

func TestP27_8WithoutExchanges(t *testing.T) {
	for _, history := range histories() {
		all := join(history...)
		x := of(t, api.Batch{Reports: all.Reports})
		for _, id := range objects {
			if len(x.Untimed(id)) > 0 {
				t.Errorf("there is no time for %s", notation.ShowReports(x.Untimed(id)))
			}
			for _, r := range x.Of(id) {
				if r.T != rational.FromInt(r.Report.Time) {
					t.Errorf("the time of %v is %s", r.Report, rational.Print(r.T))
				}
			}
		}
	}
}

func TestP27Nil(t *testing.T) {
	var none *intake.Intake
	x := from(t, "1.0 | 0>1 5")
	if n, e := none.Add(batch("1.0")); n != 0 || e != api.ErrArgument {
		t.Errorf("Add = %d, %d", n, e)
	}
	if n, e := none.Add(batch("0.0")); n != 0 || e != api.ErrArgument {
		t.Errorf("Add of an invalid report = %d, %d", n, e)
	}
	for _, o := range []*intake.Intake{nil, x} {
		if n, e := none.Merge(o); n != 0 || e != api.ErrArgument {
			t.Errorf("Merge = %d, %d", n, e)
		}
	}
	if n, e := x.Merge(nil); n != 0 || e != api.ErrArgument || show(x.Without(nil)) != "1.0 | 0>1 5" {
		t.Errorf("Merge of nil = %d, %d", n, e)
	}
	for _, r := range []string{"1.0", "0.0"} {
		if late, e := none.Late(notation.Report(r)); late || e != api.ErrArgument {
			t.Errorf("Late(%s) = %v, %d", r, late, e)
		}
	}
	if len(none.Reports())+len(none.Exchanges())+len(none.Objects())+len(none.Of(1))+len(none.Untimed(1))+len(none.Pending(1)) > 0 {
		t.Error("a nil intake has something")
	}
	if size(none.Without(nil)) > 0 || size(none.Without(x)) > 0 {
		t.Error("Without of a nil intake")
	}
	if n, found := none.Complete(1); found || n != 0 {
		t.Errorf("Complete = %d, %v", n, found)
	}
	if f, found := none.Frontier(1); found || f != (api.Rat{}) {
		t.Errorf("Frontier = %v, %v", f, found)
	}
	if w, found := none.Watermark(); found || w != (api.Rat{}) {
		t.Errorf("Watermark = %v, %v", w, found)
	}
	if none.Clone() != nil || !none.Equal(nil) || none.Equal(x) || x.Equal(nil) || none.Equal(intake.New()) || intake.New().Equal(nil) {
		t.Error("Clone or Equal of a nil intake")
	}
}

// An intake that New has not made is empty, too.
func TestZero(t *testing.T) {
	if says(&intake.Intake{}) != says(intake.New()) || !new(intake.Intake).Equal(intake.New()) {
		t.Error("a zero intake is not empty")
	}
	for _, x := range []*intake.Intake{new(intake.Intake), new(intake.Intake).Clone(), intake.New().Clone()} {
		if n, e := x.Add(batch("1.0 t5 | 0>1 5")); n != 2 || e != api.OK || show(x.Without(nil)) != "1.0 t5 | 0>1 5" {
			t.Errorf("Add = %d, %d", n, e)
		}
	}
}

// Results share no memory with arguments, and arguments do not change.
func TestP27Arguments(t *testing.T) {
	const s = "1.3 t9, 1.0 t4, 1.3 t9, 1.1 t4 d2 | 0>2 9, 3>1 2, 0>2 9"
	b := batch(s)
	x := of(t, b)
	if show(b) != s {
		t.Errorf("Add changed %s to %s", s, show(b))
	}
	want := says(x)
	clear(b.Reports)
	clear(b.Exchanges)
	for _, l := range [][]api.Report{x.Reports(), x.Untimed(1), x.Without(nil).Reports} {
		clear(l[:cap(l)])
	}
	for _, l := range [][]api.Exchange{x.Exchanges(), x.Without(nil).Exchanges} {
		clear(l[:cap(l)])
	}
	for _, l := range [][]intake.Timed{x.Of(1), x.Pending(1)} {
		clear(l[:cap(l)])
	}
	clear(x.Objects())
	if says(x) != want {
		t.Errorf("%s became %s", want, says(x))
	}
	y := from(t, "2.0")
	y.Merge(x)
	y.Add(batch("3.0 | 4>5 6"))
	x.Equal(y)
	if says(x) != want {
		t.Errorf("%s became %s", want, says(x))
	}
}

// As many reports and exchanges as there can be, of many objects and devices.
func TestP27Many(t *testing.T) {
	var b api.Batch
	for k := range api.MaxReports {
		b.Reports = append(b.Reports, api.Report{Object: 1 + k%64, Seq: k / 64, Time: 1000 + k, Device: k % 64})
		from, to := k%64, (k+1+k/64)%64
		if from == to {
			to = 64
		}
		b.Exchanges = append(b.Exchanges, api.Exchange{From: from, To: to, Sent: 1000 + from, Received: 1007 + to + k/64, Least: 7})
	}
	x := of(t, b)
	// The clock of each device is fast by its number, and no more.
	for _, id := range []int{1, 2, 64} {
		l := x.Of(id)
		if len(l) != 64 || len(x.Untimed(id)) > 0 || l[0].T != rational.FromInt(1000) || l[63].T != rational.FromInt(1000+63*64) {
			t.Errorf("Of(%d) = %s", id, showTimed(l))
		}
	}
	if w, found := x.Watermark(); !found || w != rational.FromInt(1000+63*64) {
		t.Errorf("Watermark = %s, %v", rational.Print(w), found)
	}
	if n, found := x.Complete(64); !found || n != 63 {
		t.Errorf("Complete = %d, %v", n, found)
	}
}
