package pieces_test

import (
	"slices"
	"testing"

	"viator/api"
	"viator/pieces"
	"viator/quadratic"
	"viator/real"
)

func TestP13Quads(t *testing.T) {
	r := pieces.Quads{}
	bad := wrong()
	for k, c := range []struct {
		f    api.Quad
		want api.Errno
	}{
		{api.Quad{}, api.OK}, {quad("1/2,-3,7"), api.OK}, {api.Quad{C0: bad[1].P}, api.ErrForm}, {api.Quad{C1: bad[2].P}, api.ErrForm}, {api.Quad{C2: bad[5].P}, api.ErrForm},
	} {
		if e := r.Check(c.f); e != c.want {
			t.Errorf("%d: Check = %d; want %d", k, e, c.want)
		}
	}
	for _, c := range []struct {
		f, g, at string
		same     bool
		reduced  string
	}{
		{"0,0,1", "2", "0+sqrt(2)", true, "2"}, {"0,0,1", "2", "0-sqrt(2)", true, "2"}, {"0,0,1", "2", "3/2", false, "9/4"}, {"0,0,1", "0,2", "2", true, "4"}, {"0,0,1", "0,2", "1+sqrt(3)", false, "2,2"}, {"0,0,1", "2,2", "1+sqrt(3)", true, "2,2"}, {"5", "5", "7", true, "5"}, {"0,1", "0,1", "0+sqrt(3)", true, "0,1"}, {"0,1", "0,1", "3", true, "3"},
	} {
		f, g, at := quad(c.f), quad(c.g), re(c.at)
		if r.Same(f, g, at) != c.same || r.Same(g, f, at) != c.same {
			t.Errorf("Same(%s; %s; %s) is not %v", c.f, c.g, c.at, c.same)
		}
		if got := r.Reduce(f, at); got != quad(c.reduced) {
			t.Errorf("Reduce(%s; %s) = %s; want %s", c.f, c.at, showQuad(got), c.reduced)
		}
		if r.Equal(f, g) != (f == g) || !r.Equal(f, f) {
			t.Errorf("Equal(%s; %s)", c.f, c.g)
		}
	}
}

func TestP13Lines(t *testing.T) {
	r := pieces.Lines{}
	line := func(x0, x1, y0, y1 string) api.Line {
		return api.Line{X0: rat(x0), X1: rat(x1), Y0: rat(y0), Y1: rat(y1)}
	}
	bad := wrong()[2].P
	for k, f := range []api.Line{{X0: bad}, {X1: bad}, {Y0: bad}, {Y1: bad}} {
		if e := r.Check(f); e != api.ErrForm {
			t.Errorf("%d: Check = %d", k, e)
		}
	}
	f := line("1", "2", "-1/2", "3")
	if e := r.Check(f); e != api.OK {
		t.Errorf("Check = %d", e)
	}
	if e := r.Check(api.Line{}); e != api.OK {
		t.Errorf("Check of the origin = %d", e)
	}
	for k, g := range []api.Line{line("0", "2", "-1/2", "3"), line("1", "0", "-1/2", "3"), line("1", "2", "0", "3"), line("1", "2", "-1/2", "0")} {
		if r.Equal(f, g) || !r.Equal(g, g) {
			t.Errorf("%d: Equal", k)
		}
	}
	for _, c := range []struct {
		g    api.Line
		at   string
		want bool
	}{
		{line("3", "0", "5/2", "0"), "1", true}, {line("3", "0", "5/2", "1"), "1", false}, {line("3", "1", "5/2", "0"), "1", false}, {line("3", "0", "5/2", "0"), "2", false}, {line("2", "1", "1/2", "2"), "1", true}, {line("2", "1", "1/2", "2"), "0+sqrt(1/2)", false}, {line("1", "2", "1/2", "2"), "0+sqrt(2)", false}, {line("2", "1", "-1/2", "3"), "0+sqrt(2)", false}, {f, "0+sqrt(2)", true}, {f, "3", true},
	} {
		if r.Same(f, c.g, re(c.at)) != c.want || r.Same(c.g, f, re(c.at)) != c.want {
			t.Errorf("Same(%s; %s; %s) is not %v", showLine(f), showLine(c.g), c.at, c.want)
		}
	}
	if got := r.Reduce(f, re("3/2")); got != line("4", "0", "4", "0") {
		t.Errorf("Reduce at 3/2 = %s", showLine(got))
	}
	if got := r.Reduce(f, re("1-sqrt(3)")); got != f {
		t.Errorf("Reduce at 1-sqrt(3) = %s", showLine(got))
	}
}

func TestP13Labels(t *testing.T) {
	r := pieces.Labels{}
	for _, f := range []int{0, 1, -5, 1 << 62} {
		for _, g := range []int{0, -5} {
			if r.Check(f) != api.OK || r.Equal(f, g) != (f == g) || r.Same(f, g, re("0+sqrt(2)")) != (f == g) || r.Reduce(f, re("3")) != f {
				t.Errorf("the rules for %d and %d", f, g)
			}
		}
	}
}

// The rules agree with one another as the chapter says.
func TestP13Rules(t *testing.T) {
	testRules(t, quads())
	testRules(t, lines())
	testRules(t, labels())
}

func testRules[F any](t *testing.T, w world[F]) {
	for bit := range w.bits() {
		at := w.at(bit)
		for _, f := range w.functions {
			reduced := w.rules.Reduce(f, at)
			if !w.rules.Same(reduced, f, at) || w.rules.Check(f) != api.OK || w.rules.Check(reduced) != api.OK {
				t.Errorf("%s is reduced to %s at %s", w.show(f), w.show(reduced), real.Print(at))
			}
			for _, g := range w.functions {
				if w.rules.Same(f, g, at) != w.rules.Equal(reduced, w.rules.Reduce(g, at)) {
					t.Errorf("%s and %s at %s", w.show(f), w.show(g), real.Print(at))
				}
			}
		}
	}
}

func TestP13_1Check(t *testing.T) {
	r := pieces.Quads{}
	for s, want := range map[string]api.Errno{
		"": api.OK, "[0 1] 0,1": api.OK, "[0 1] 0,1; (1 3] 2,-1": api.OK, "[0 1) 0,1; [1 1] 5; (1 2] 0,1": api.OK, "[0 1) 0,1; (1 2] 0,1": api.OK, "[3 3] 3": api.OK, "[0+sqrt(2) 0+sqrt(2)] 2": api.OK, "[0+sqrt(2) 0+sqrt(2)] 0,1": api.OK, "(0 1) 0,1; [1 2] 2": api.OK, "[0 1] 0,1; (1 2] 2": api.OK, "[0 0] 3; [1 1] 3": api.OK,
		// Rule 1: the order, and instants that are not reduced.
		"[1 2] 5; [0 0] 5": api.ErrOrder, "[1 2] 5; [0 1) 6": api.ErrOrder, "[0 1] 0,1; [1 3] 2,-1": api.ErrOrder, "[0 2] 5; [1 3] 6": api.ErrOrder, "[0 2] 5; [1 1] 6": api.ErrOrder, "[1 1] 5; [1 1] 5": api.ErrOrder, "[1 1] 5; [1 2] 5": api.ErrOrder, "(0 1) 5; (0 1) 5": api.ErrOrder, "(0 1) 5; [0 0] 7": api.ErrOrder,
		"[3 3] 0,1": api.ErrForm, "[0+sqrt(2) 0+sqrt(2)] 0,0,1": api.ErrForm, "[0 1] 0,1; [3 3] 0,1": api.ErrForm,
		// Rules 2 and 3: an instant belongs to a longer unit that gives its value, and to the earlier one of two.
		"[0 1) 0,1; [1 3] 2,-1": api.ErrForm, "[0 1) 0,1; [1 1] 1": api.ErrForm, "[0 1) 0,1; [1 1] 1; (1 2] 5": api.ErrForm, "[1 1] 1; (1 2] 0,1": api.ErrForm, "[0 1) 5; [1 1] 1; (1 2] 0,1": api.ErrForm, "[0 0+sqrt(2)) 0,0,1; [0+sqrt(2) 2] 2": api.ErrForm, "[0 0+sqrt(2)) 0,0,1; [0+sqrt(2) 0+sqrt(2)] 2": api.ErrForm,
		// Rule 4: neighbours with equal functions.
		"[0 1] 0,1; (1 2] 0,1": api.ErrForm, "[0 1) 0,1; [1 2] 0,1": api.ErrForm, "[0 1] 2; (1 2] 5; (2 3] 5": api.ErrForm,
		// What comes first.
		"[2 1] 5": api.ErrEmpty, "(1 1] 5": api.ErrEmpty, "[1 1) 5": api.ErrEmpty, "[3 3] 0,1; [2 1] 5": api.ErrEmpty, "[3 3] 0,1; [1 2] 5": api.ErrOrder, "[0 1] 5; [0 1] 5; [2 1] 5": api.ErrOrder, "[0 1] 5; [1 0] 5; [0 1] 5": api.ErrEmpty,
	} {
		if e := pieces.Check[api.Quad](r, units(s)); e != want {
			t.Errorf("Check(%s) = %d; want %d", s, e, want)
		}
	}
}

// Errors of functions stand between those of the interval and of the order.
func TestP13_1CheckOrder(t *testing.T) {
	good, bad := tagged{q: quad("0,1")}, tagged{q: quad("0,1"), tags: []string{"bad"}}
	u := func(s string, f tagged) pieces.Unit[tagged] { return pieces.Unit[tagged]{In: in(s), F: f} }
	form := pieces.Unit[tagged]{In: api.Interval{From: wrong()[0], To: re("7")}, F: bad}
	for k, c := range []struct {
		l    []pieces.Unit[tagged]
		want api.Errno
	}{
		{[]pieces.Unit[tagged]{u("[0 1]", bad)}, api.ErrName}, {[]pieces.Unit[tagged]{u("[1 0]", bad)}, api.ErrEmpty}, {[]pieces.Unit[tagged]{form}, api.ErrForm}, {[]pieces.Unit[tagged]{u("[0 1]", good), form}, api.ErrForm}, {[]pieces.Unit[tagged]{u("[0 1]", bad), form}, api.ErrName}, {[]pieces.Unit[tagged]{u("[0 1]", good), u("[1 2]", bad)}, api.ErrName}, {[]pieces.Unit[tagged]{u("[0 1]", good), u("[1 2]", good), u("[2 3]", bad)}, api.ErrOrder}, {[]pieces.Unit[tagged]{u("[0 1]", good), u("(1 2]", good), u("(2 3]", bad)}, api.ErrName}, {[]pieces.Unit[tagged]{u("[0 1]", good), u("(1 2]", good)}, api.ErrForm}, {[]pieces.Unit[tagged]{u("[0 1]", good), u("[2 3]", good)}, api.OK},
	} {
		if e := pieces.Check[tagged](tags{}, c.l); e != c.want {
			t.Errorf("%d: Check = %d; want %d", k, e, c.want)
		}
	}
}

func TestP13_1CheckLimit(t *testing.T) {
	many := make([]label, api.MaxUnits)
	for k := range many {
		many[k] = label{In: api.Interval{From: real.FromInt(k), To: real.FromInt(k)}, F: k / 3}
	}
	if e := pieces.Check[int](pieces.Labels{}, many); e != api.OK {
		t.Errorf("Check = %d", e)
	}
	more := append(slices.Clone(many), label{In: in("[1000 1000]")})
	if e := pieces.Check[int](pieces.Labels{}, more); e != api.ErrLimit {
		t.Errorf("Check of one more = %d", e)
	}
	if l, e := pieces.Normal[int](pieces.Labels{}, more); e != api.OK || len(l) != len(more) {
		t.Errorf("Normal of one more = %d units, %d", len(l), e)
	}
	more[0].In = in("[1 0]")
	if e := pieces.Check[int](pieces.Labels{}, more); e != api.ErrLimit {
		t.Errorf("Check of one more, which are not valid = %d", e)
	}
}

func TestP13_2Normal(t *testing.T) {
	for s, want := range map[string]string{
		"": "", "[1 3] 2,-1; [0 1) 0,1": "[0 1] 0,1; (1 3] 2,-1", "[0 1) 0,1; [1 1] 5; (1 2] 0,1": "[0 1) 0,1; [1 1] 5; (1 2] 0,1", "[0 1) 0,1; [1 1] 1; (1 2] 0,1": "[0 2] 0,1", "(1 2] 0,1; [0 1) 0,1": "[0 1) 0,1; (1 2] 0,1", "[1 1] 0,5; (1 2] 5,1": "[1 1] 5; (1 2] 5,1", "[1 1] 0,6; (1 2] 5,1": "[1 2] 5,1",
		"[0+sqrt(2) 0+sqrt(2)] 0,0,1": "[0+sqrt(2) 0+sqrt(2)] 2", "[1+sqrt(3) 1+sqrt(3)] 0,0,1": "[1+sqrt(3) 1+sqrt(3)] 2,2", "[3 3] 0,1": "[3 3] 3", "(1 2] 5; [0 1] 5": "[0 2] 5", "[1 2] 5; [0 1) 5": "[0 2] 5", "[2 2] 5; [1 2) 5; (2 3) 5; [3 4] 5": "[1 4] 5",
		"[0 0+sqrt(2)) 0,0,1; [0+sqrt(2) 2] 2": "[0 0+sqrt(2)] 0,0,1; (0+sqrt(2) 2] 2", "[0 0+sqrt(2)) 1; [0+sqrt(2) 0+sqrt(2)] 0,0,1; (0+sqrt(2) 2] 2": "[0 0+sqrt(2)) 1; [0+sqrt(2) 2] 2", "[0 1) 2; [1 1] 2; (1 3] 0,2": "[0 1] 2; (1 3] 0,2", "[0 1) 7; [1 1] 2; (1 3] 0,2": "[0 1) 7; [1 3] 0,2", "[0 1) 7; [1 1] 8; (1 3] 0,2": "[0 1) 7; [1 1] 8; (1 3] 0,2", "[0 1) 7; [1 3] 0,2": "[0 1) 7; [1 3] 0,2",
		"[4 5] 1; [2 3] 1; [0 1] 1": "[0 1] 1; [2 3] 1; [4 5] 1", "[1 1] 0,0,1; [0 0] 1": "[0 0] 1; [1 1] 1", "(0 1) 1; (1 2) 1": "(0 1) 1; (1 2) 1",
	} {
		l, e := pieces.Normal[api.Quad](pieces.Quads{}, units(s))
		if e != api.OK || showUnits(l) != want {
			t.Errorf("Normal(%s) = %s, %d; want %s", s, showUnits(l), e, want)
		}
		if e := pieces.Check[api.Quad](pieces.Quads{}, l); e != api.OK {
			t.Errorf("Check(%s) = %d", showUnits(l), e)
		}
	}
	for _, s := range []string{"[0 1] 0,1; [1 2] 0,1", "[1 2] 5; [0 1] 5", "[0 9] 5; [3 3] 5", "[3 3] 5; [0 9] 5", "[3 3] 5; [3 3] 5", "(0 1) 5; (0 1) 5", "[0 2) 1; [4 5] 1; (1 3] 1", "[0 9] 1; [1 2] 1; [10 11] 1", "[5 6] 1; (1 2] 1; [2 3] 1", "[0+sqrt(2) 3] 1; [0 3/2) 1", "[1 1] 1; [1 2] 1", "[1 2] 1; [1 1] 1", "[0 0+sqrt(2)] 1; [0+sqrt(2) 0+sqrt(2)] 1"} {
		if l, e := pieces.Normal[api.Quad](pieces.Quads{}, units(s)); e != api.ErrOverlap || l != nil {
			t.Errorf("Normal(%s) = %s, %d", s, showUnits(l), e)
		}
	}
}

// All values of the models, each divided in two ways: what Normal returns is in normal form and describes the value, and two values are the same exactly if their normal forms are equal.
func TestP13_2Values(t *testing.T) {
	testNormal(t, quads(), 3*4*3*4*3)
	testNormal(t, lines(), 4*4*3*4*3)
	testNormal(t, labels(), 4*4*4*4*4)
	testNormal(t, marks(), 3*4*3*4*3)
}

func testNormal[F any](t *testing.T, w world[F], different int) {
	normals, meanings := map[string]string{}, map[string]string{}
	refused := 0
	w.each(1, func(v value) {
		l := w.normal(v)
		text, meaning := w.string(l), w.meaning(v)
		if !isNormal(w.rules, l) || !w.describes(l, v) {
			t.Errorf("Normal(%s) = %s", w.string(w.cells(v)), text)
		}
		if shreds, e := pieces.Normal(w.rules, w.shreds(v)); e != api.OK || w.string(shreds) != text || !pieces.Equal(w.rules, shreds, l) {
			t.Errorf("Normal(%s) = %s, %d; want %s", w.string(w.shreds(v)), w.string(shreds), e, text)
		}
		if again, e := pieces.Normal(w.rules, l); e != api.OK || w.string(again) != text {
			t.Errorf("Normal(%s) = %s, %d", text, w.string(again), e)
		}
		if before, ok := normals[meaning]; ok && before != text {
			t.Errorf("%s and %s describe the same value", before, text)
		}
		if before, ok := meanings[text]; ok && before != meaning {
			t.Errorf("%s has the meanings %s and %s", text, before, meaning)
		}
		normals[meaning], meanings[text] = text, meaning
		want := api.OK
		if cells := w.cells(v); !isNormal(w.rules, cells) {
			want = api.ErrForm
			refused++
		}
		if e := pieces.Check(w.rules, w.cells(v)); e != want {
			t.Errorf("Check(%s) = %d; want %d", w.string(w.cells(v)), e, want)
		}
		if e := pieces.Check(w.rules, l); e != api.OK {
			t.Errorf("Check(%s) = %d", text, e)
		}
	})
	count(t, "Check refused", refused, 400)
	if len(normals) != different || len(meanings) != different {
		t.Errorf("%d values have %d normal forms; want %d", len(normals), len(meanings), different)
	}
}

func TestP13_2Equal(t *testing.T) {
	equal := func(a, b string) bool { return pieces.Equal[api.Quad](pieces.Quads{}, units(a), units(b)) }
	lists := []string{"", "[0 1] 0,1", "[0 1) 0,1", "(0 1] 0,1", "[0 1] 0,2", "[0 2] 0,1", "[-1 1] 0,1", "[0 1] 0,1; [2 2] 2", "[0 1] 0,1; [2 2] 3", "[0 1] 0,1; [2 3] 2"}
	for _, a := range lists {
		for _, b := range lists {
			if equal(a, b) != (a == b) {
				t.Errorf("Equal(%s; %s) is not %v", a, b, a == b)
			}
		}
	}
	if !pieces.Equal[api.Quad](pieces.Quads{}, nil, []unit{}) {
		t.Error("nil and empty lists are not equal")
	}
	f, g := tagged{q: quad("0,1"), tags: []string{"f"}}, tagged{q: quad("0,1"), tags: []string{"g"}}
	a, b := []pieces.Unit[tagged]{{In: in("[0 1]"), F: f}}, []pieces.Unit[tagged]{{In: in("[0 1]"), F: g}}
	if !pieces.Equal[tagged](tags{}, a, b) {
		t.Error("functions are not compared by the rules")
	}
}

func TestP13_3At(t *testing.T) {
	l := units("[0 1) 0,1; [1 1] 5; (1 0+sqrt(3)] 2; [2 2] 7; (2 3) 0,0,1; (3 4] 0,3; [6 6] 1")
	for at, want := range map[string]string{"0": "0,1", "1/2": "0,1", "1": "5", "3/2": "2", "0+sqrt(3)": "2", "7/4": "", "2": "7", "0+sqrt(5)": "0,0,1", "3": "", "4": "0,3", "5": "", "6": "1", "-1": "", "7": "", "0-sqrt(2)": "", "4+sqrt(1/100000000000000000001)": "", "4-sqrt(1/100000000000000000001)": "0,3"} {
		f, ok := pieces.At(l, re(at))
		if ok != (want != "") || ok && f != quad(want) || !ok && f != (api.Quad{}) {
			t.Errorf("At(%s) = %s, %v; want %s", at, showQuad(f), ok, want)
		}
	}
	if f, ok := pieces.At([]unit(nil), re("0")); ok || f != (api.Quad{}) {
		t.Errorf("At of nothing = %v, %v", f, ok)
	}
	w := quads()
	w.each(1, func(v value) {
		l := w.normal(v)
		for bit := range v {
			f, ok := pieces.At(l, w.at(bit))
			if g, found := functionAt(l, w.at(bit)); ok != found || f != g {
				t.Errorf("At(%s; %s) = %s, %v", showUnits(l), real.Print(w.at(bit)), showQuad(f), ok)
			}
		}
		for _, outside := range reals("-1 3 0-sqrt(2) 0+sqrt(5)") {
			if _, ok := pieces.At(l, outside); ok {
				t.Errorf("At(%s; %s)", showUnits(l), real.Print(outside))
			}
		}
	})
}

func TestP13_3Domain(t *testing.T) {
	for s, want := range map[string]string{"": "", "[0 1) 0,1; [1 1] 5; (1 2] 0,1; [3 4) 0; (4 5) 0": "[0 2], [3 4), (4 5)", "[0 1] 0,1; (1 0+sqrt(2)] 2": "[0 0+sqrt(2)]", "[0 0] 1; (0 1) 5": "[0 1)"} {
		if got := pieces.Domain(units(s)); !slices.Equal(got, list(want)) {
			t.Errorf("Domain(%s) = %v; want %s", s, got, want)
		}
	}
	for s, want := range map[string]string{"": "", "[0 1) 0,1; [1 1] 5; (1 2] 0,1; [3 4) 0; (4 5) 0; [6 6] 1": "0 1 2 3 4 5 6", "(0 0+sqrt(2)] 2; (0+sqrt(2) 3/2) 5": "0 0+sqrt(2) 3/2"} {
		if got := pieces.Ends(units(s)); !slices.Equal(got, reals(want)) {
			t.Errorf("Ends(%s) = %v; want %s", s, got, want)
		}
	}
}

// Nothing is specified for lists, functions and rules that are not valid, but no function may panic or go on for ever.
func TestP1NotValid(t *testing.T) {
	ends := append(wrong(), reals("0 1 0+sqrt(2)")...)
	for k, x := range ends {
		for n, y := range ends {
			i := api.Interval{From: x, To: y, OpenFrom: k > n, OpenTo: k%2 == 0}
			f := api.Quad{C0: x.P, C1: y.R, C2: y.P}
			a := []unit{{In: i, F: f}, {In: api.Interval{From: y, To: x}}, {In: i}}
			b := []unit{{In: api.Interval{From: y, To: y}, F: f}, {In: i, F: f}}
			during := []api.Interval{i, {From: x, To: x}, i}
			callAll(pieces.Quads{}, a, b, y, during, func(f api.Quad) api.Quad { return quadratic.Add(f, f) }, quadratic.Add)
		}
	}
}

// callAll calls the functions of the package.
func callAll[F any](r pieces.Rules[F], a, b []pieces.Unit[F], at api.Real, during []api.Interval, build func(f F) F, both func(f, g F) F) {
	pieces.Check(r, a)
	pieces.Normal(r, a)
	pieces.At(a, at)
	pieces.Domain(a)
	pieces.Ends(a)
	pieces.Restrict(r, a, during)
	pieces.Join(r, a, b)
	pieces.Patch(r, a, b)
	pieces.Refine(a, b)
	pieces.Map(r, a, build)
	pieces.Combine(r, a, b, both)
	pieces.Shift(r, a, at.P, build)
	pieces.Equal(r, a, b)
}

// bomb has rules that panic.
type bomb struct{ pieces.Labels }

func (bomb) Equal(f, g int) bool { panic("Equal") }

func (bomb) Same(f, g int, t api.Real) bool { panic("Same") }

// Rules and functions that are nil or panic lead to no panic either, and to results without a value.
func TestP1Panics(t *testing.T) {
	a := []label{{In: in("[0 1)"), F: 1}, {In: in("[1 1]"), F: 2}, {In: in("(1 2]"), F: 1}}
	b := []label{{In: in("[2 3]"), F: 1}}
	for _, r := range []pieces.Rules[int]{nil, bomb{}, (*bomb)(nil)} {
		callAll(r, a, a, re("1"), list("[0 1]"), func(f int) int { return f }, func(f, g int) int { return f })
		callAll(r, a, b, re("1"), nil, nil, nil)
		if e := pieces.Check(r, a); e != api.ErrArgument {
			t.Errorf("Check = %d", e)
		}
		if l, e := pieces.Normal(r, a); e != api.ErrArgument || l != nil {
			t.Errorf("Normal = %v, %d", l, e)
		}
		if pieces.Equal(r, a, a) || pieces.Restrict(r, a, list("[0 2]")) != nil || pieces.Patch(r, a, b) != nil {
			t.Error("results of rules that panic")
		}
	}
	explode := func(f int) int { panic(f) }
	if pieces.Map(pieces.Labels{}, a, explode) != nil || pieces.Shift(pieces.Labels{}, a, rat("1"), explode) != nil || pieces.Map[int, int](pieces.Labels{}, a, nil) != nil || pieces.Combine[int, int, int](pieces.Labels{}, a, a, nil) != nil {
		t.Error("results of functions that panic")
	}
}
