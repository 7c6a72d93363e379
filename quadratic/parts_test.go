package quadratic_test

import (
	"slices"
	"strings"
	"testing"

	"viator/api"
	"viator/quadratic"
	"viator/rational"
	"viator/real"
)

// interval returns the interval with a string such as "[0, 1)".
func interval(s string) api.Interval {
	from, to, _ := strings.Cut(s[1:len(s)-1], ", ")
	return api.Interval{From: re(from), To: re(to), OpenFrom: s[0] == '(', OpenTo: s[len(s)-1] == ')'}
}

func showInterval(in api.Interval) string {
	left, right := "[", "]"
	if in.OpenFrom {
		left = "("
	}
	if in.OpenTo {
		right = ")"
	}
	return left + real.Print(in.From) + ", " + real.Print(in.To) + right
}

// contains tells whether an instant belongs to an interval.
func contains(in api.Interval, t api.Real) bool {
	return !(real.Compare(t, in.From) < 0 || t == in.From && in.OpenFrom || real.Compare(t, in.To) > 0 || t == in.To && in.OpenTo)
}

// cases calls a function with many functions and intervals.
func cases(f func(q api.Quad, in api.Interval)) {
	var ends []api.Real
	for _, s := range []string{"-2", "0-sqrt(2)", "-1", "2/15-sqrt(94/225)", "1-sqrt(2)", "0", "1", "1767766952966368811/1250000000000000000", "0+sqrt(2)", "2", "1+sqrt(2)"} {
		ends = append(ends, re(s))
	}
	for _, q := range functions() {
		for i, from := range ends {
			f(q, api.Interval{From: from, To: from})
			for _, to := range ends[i+1:] {
				for open := range 4 {
					f(q, api.Interval{From: from, To: to, OpenFrom: open&1 == 1, OpenTo: open&2 == 2})
				}
			}
		}
	}
}

// within returns instants of an interval in increasing order: the ends that belong to it, the roots and the turning point of a function that do, and one between each two of these.
func within(q api.Quad, in api.Interval) []api.Real {
	list := []api.Real{in.From, in.To}
	for _, f := range []api.Quad{q, quadratic.Derivative(q)} {
		roots, _ := real.Roots(f)
		list = append(list, roots...)
	}
	slices.SortFunc(list, real.Compare)
	for i := range len(list) - 1 {
		if between, e := real.Between(list[i], list[i+1]); e == api.OK {
			list = append(list, real.FromRat(between))
		}
	}
	slices.SortFunc(list, real.Compare)
	return slices.DeleteFunc(slices.Compact(list), func(t api.Real) bool { return !contains(in, t) })
}

// signs calls a function with all choices of signs.
func signs(f func(negative, zero, positive bool)) {
	for n := range 8 {
		f(n&1 == 1, n&2 == 2, n&4 == 4)
	}
}

func TestP4_6Signs(t *testing.T) {
	for _, c := range []struct{ q, in, want string }{
		{"-2 0 1", "[0, 2]", "- [0, 0+sqrt(2)); 0 [0+sqrt(2), 0+sqrt(2)]; + (0+sqrt(2), 2]"},
		{"-2 0 1", "(-9, 9)", "+ (-9, 0-sqrt(2)); 0 [0-sqrt(2), 0-sqrt(2)]; - (0-sqrt(2), 0+sqrt(2)); 0 [0+sqrt(2), 0+sqrt(2)]; + (0+sqrt(2), 9)"},
		{"-2 0 1", "[0-sqrt(2), 0+sqrt(2)]", "0 [0-sqrt(2), 0-sqrt(2)]; - (0-sqrt(2), 0+sqrt(2)); 0 [0+sqrt(2), 0+sqrt(2)]"},
		{"-2 0 1", "(0-sqrt(2), 0+sqrt(2))", "- (0-sqrt(2), 0+sqrt(2))"}, {"2 0 -1", "(0-sqrt(2), 0+sqrt(2))", "+ (0-sqrt(2), 0+sqrt(2))"},
		{"-2 0 1", "[0+sqrt(2), 0+sqrt(2)]", "0 [0+sqrt(2), 0+sqrt(2)]"}, {"-2 0 1", "[3, 3]", "+ [3, 3]"}, {"-2 0 1", "[0, 0]", "- [0, 0]"},
		{"0 1 0", "[-1, 0]", "- [-1, 0); 0 [0, 0]"}, {"0 1 0", "[-1, 0)", "- [-1, 0)"}, {"0 1 0", "[0, 1)", "0 [0, 0]; + (0, 1)"}, {"0 -1 0", "(0, 1]", "- (0, 1]"},
		{"1 2 1", "[-2, 0]", "+ [-2, -1); 0 [-1, -1]; + (-1, 0]"}, {"-1 -2 -1", "(-2, 0)", "- (-2, -1); 0 [-1, -1]; - (-1, 0)"},
		{"0 0 0", "(0, 2]", "0 (0, 2]"}, {"0 0 0", "[1, 1]", "0 [1, 1]"}, {"-5 0 0", "[0, 2)", "- [0, 2)"}, {"1 0 1", "(-9, 9)", "+ (-9, 9)"}, {"2 -3 1", "(1, 2)", "- (1, 2)"}, {"-2 3 -1", "[1, 2)", "0 [1, 1]; + (1, 2)"},
	} {
		pieces, e := quadratic.Signs(quad(c.q), interval(c.in))
		var got []string
		for _, p := range pieces {
			got = append(got, string("-0+"[p.Sign+1])+" "+showInterval(p.In))
		}
		if s := strings.Join(got, "; "); s != c.want || e != api.OK {
			t.Errorf("Signs(%s, %s) = %s, %d; want %s", c.q, c.in, s, e, c.want)
		}
	}
}

func TestP4_6SignsAtInstants(t *testing.T) {
	cases(func(q api.Quad, in api.Interval) {
		pieces, e := quadratic.Signs(q, in)
		if e != api.OK || len(pieces) == 0 || !follow(pieces, in) {
			t.Fatalf("Signs(%s, %s) = %v, %d", show(q), showInterval(in), pieces, e)
		}
		for _, x := range within(q, in) {
			i := slices.IndexFunc(pieces, func(p quadratic.Piece) bool { return contains(p.In, x) })
			if i < 0 || pieces[i].Sign != quadratic.SignAt(q, x) {
				t.Errorf("Signs(%s, %s) are wrong at %s", show(q), showInterval(in), real.Print(x))
			}
		}
	})
}

// follow tells whether parts that are not empty follow one another without gaps, with different signs, from one end of an interval to the other.
func follow(pieces []quadratic.Piece, in api.Interval) bool {
	whole := api.Interval{From: pieces[0].In.From, OpenFrom: pieces[0].In.OpenFrom, To: pieces[len(pieces)-1].In.To, OpenTo: pieces[len(pieces)-1].In.OpenTo}
	if whole != in {
		return false
	}
	for i, p := range pieces {
		order := real.Compare(p.In.From, p.In.To)
		if order > 0 || order == 0 && (p.In.OpenFrom || p.In.OpenTo) {
			return false
		}
		if i > 0 && (pieces[i-1].In.To != p.In.From || pieces[i-1].In.OpenTo == p.In.OpenFrom || pieces[i-1].Sign == p.Sign) {
			return false
		}
	}
	return true
}

func TestP4_6Where(t *testing.T) {
	for _, c := range []struct{ q, in, signs, want string }{
		{"-2 0 1", "[0, 2]", "-0", "[0, 0+sqrt(2)]"}, {"-2 0 1", "[0, 2]", "-+", "[0, 0+sqrt(2)) (0+sqrt(2), 2]"}, {"-2 0 1", "[0, 2]", "0+", "[0+sqrt(2), 2]"}, {"-2 0 1", "[0, 2]", "0", "[0+sqrt(2), 0+sqrt(2)]"}, {"-2 0 1", "[0, 2]", "", ""}, {"-2 0 1", "(0, 2)", "-0+", "(0, 2)"},
		{"-2 0 1", "[-2, 2]", "+", "[-2, 0-sqrt(2)) (0+sqrt(2), 2]"}, {"-2 0 1", "[-2, 2]", "+0", "[-2, 0-sqrt(2)] [0+sqrt(2), 2]"}, {"-2 0 1", "[0-sqrt(2), 0+sqrt(2)]", "0", "[0-sqrt(2), 0-sqrt(2)] [0+sqrt(2), 0+sqrt(2)]"}, {"-2 0 1", "(0-sqrt(2), 0+sqrt(2))", "0+", ""},
		{"1 2 1", "(-2, 0)", "+", "(-2, -1) (-1, 0)"}, {"1 2 1", "(-2, 0)", "0+", "(-2, 0)"}, {"1 2 1", "[-1, -1]", "0", "[-1, -1]"}, {"1 2 1", "[-1, -1]", "-+", ""}, {"0 0 0", "(0, 1]", "0", "(0, 1]"}, {"0 0 0", "(0, 1]", "-+", ""}, {"7 0 0", "(0, 1]", "+", "(0, 1]"},
	} {
		list, e := quadratic.Where(quad(c.q), interval(c.in), strings.Contains(c.signs, "-"), strings.Contains(c.signs, "0"), strings.Contains(c.signs, "+"))
		var got []string
		for _, in := range list {
			got = append(got, strings.ReplaceAll(showInterval(in), ", ", ","))
		}
		if s := strings.ReplaceAll(strings.Join(got, " "), ",", ", "); s != c.want || e != api.OK {
			t.Errorf("Where(%s, %s, %s) = %s, %d; want %s", c.q, c.in, c.signs, s, e, c.want)
		}
	}
}

func TestP4_6WhereAtInstants(t *testing.T) {
	cases(func(q api.Quad, in api.Interval) {
		var samples []api.Real
		var at []int
		for _, x := range within(q, in) {
			samples, at = append(samples, x), append(at, quadratic.SignAt(q, x))
		}
		signs(func(negative, zero, positive bool) {
			list, e := quadratic.Where(q, in, negative, zero, positive)
			if e != api.OK || !apart(list) {
				t.Fatalf("Where(%s, %s, %v, %v, %v) = %v, %d", show(q), showInterval(in), negative, zero, positive, list, e)
			}
			wanted := [3]bool{negative, zero, positive}
			for i, x := range samples {
				if slices.ContainsFunc(list, func(in api.Interval) bool { return contains(in, x) }) != wanted[at[i]+1] {
					t.Errorf("Where(%s, %s, %v, %v, %v) is wrong at %s", show(q), showInterval(in), negative, zero, positive, real.Print(x))
				}
			}
			checkWithin(t, list, in)
		})
	})
}

// apart tells whether intervals are in order, and none of them could be joined with the next one.
func apart(list []api.Interval) bool {
	for i := range len(list) - 1 {
		before, next := list[i], list[i+1]
		order := real.Compare(before.To, next.From)
		if order > 0 || order == 0 && !(before.OpenTo && next.OpenFrom) {
			return false
		}
	}
	return true
}

// checkWithin complains if an instant between the ends of an interval of the list, or such an end, belongs to the list, but not to the interval.
func checkWithin(t *testing.T, list []api.Interval, in api.Interval) {
	t.Helper()
	for _, part := range list {
		for _, x := range []api.Real{part.From, part.To} {
			if contains(part, x) && !contains(in, x) {
				t.Errorf("%s is not in %s", real.Print(x), showInterval(in))
			}
		}
		if real.Compare(part.From, in.From) < 0 || real.Compare(part.To, in.To) > 0 {
			t.Errorf("%s is not in %s", showInterval(part), showInterval(in))
		}
	}
}

// wrongIntervals returns intervals that are not permitted, with their errors.
func wrongIntervals() map[api.Interval]api.Errno {
	notReal := []api.Real{{R: rat("4")}, {R: rat("-2")}, {Neg: true}, {P: api.Rat{Num: api.Int{Mag: "\x00"}}}, {P: api.Rat{Num: rat("1").Num, Den: rat("1").Num}}}
	wrong := map[api.Interval]api.Errno{
		interval("[2, 1]"): api.ErrEmpty, interval("(2, 1)"): api.ErrEmpty, interval("(2, 2]"): api.ErrEmpty, interval("[2, 2)"): api.ErrEmpty, interval("(2, 2)"): api.ErrEmpty,
		interval("[0+sqrt(2), 0-sqrt(2)]"): api.ErrEmpty, interval("(0+sqrt(2), 0+sqrt(2)]"): api.ErrEmpty, interval("[3/2, 0+sqrt(2)]"): api.ErrEmpty,
	}
	for _, x := range notReal {
		for _, y := range []string{"-9", "9", "0", "0+sqrt(2)"} {
			wrong[api.Interval{From: x, To: re(y)}] = api.ErrForm
			wrong[api.Interval{From: re(y), To: x}] = api.ErrForm
			wrong[api.Interval{From: x, To: x, OpenTo: true}] = api.ErrForm
		}
	}
	return wrong
}

func TestP4_6Errors(t *testing.T) {
	for in, want := range wrongIntervals() {
		for _, q := range functions() {
			if pieces, e := quadratic.Signs(q, in); len(pieces) != 0 || e != want {
				t.Errorf("Signs(%s, %v) = %v, %d", show(q), in, pieces, e)
			}
			signs(func(negative, zero, positive bool) {
				if list, e := quadratic.Where(q, in, negative, zero, positive); len(list) != 0 || e != want {
					t.Errorf("Where(%s, %v) = %v, %d", show(q), in, list, e)
				}
			})
		}
	}
}

func TestP4_7(t *testing.T) {
	for _, c := range []struct {
		q, in, least, at string
		reached          bool
		greatest, atG    string
		reachedG         bool
	}{
		{"-2 0 1", "(0, 2]", "-2", "0", false, "2", "2", true},
		{"-2 0 1", "[0, 2)", "-2", "0", true, "2", "2", false},
		{"-2 0 1", "(-2, 2]", "-2", "0", true, "2", "-2", true},
		{"-2 0 1", "[-2, 2)", "-2", "0", true, "2", "-2", true},
		{"-2 0 1", "(-2, 2)", "-2", "0", true, "2", "-2", false},
		{"2 0 -1", "(-2, 2]", "-2", "-2", true, "2", "0", true},
		{"-2 0 1", "(0-sqrt(3), 1+sqrt(2))", "-2", "0", true, "1+sqrt(8)", "1+sqrt(2)", false},
		{"0 1 0", "(0, 2)", "0", "0", false, "2", "2", false}, {"0 -1 0", "[0, 2)", "-2", "2", false, "0", "0", true}, {"0 1 0", "[1-sqrt(2), 0+sqrt(2)]", "1-sqrt(2)", "1-sqrt(2)", true, "0+sqrt(2)", "0+sqrt(2)", true},
		{"5 0 0", "(0, 2)", "5", "0", true, "5", "0", true}, {"0 0 0", "(0-sqrt(2), 2)", "0", "0-sqrt(2)", true, "0", "0-sqrt(2)", true}, {"5 0 0", "[1, 1]", "5", "1", true, "5", "1", true},
		{"-2 0 1", "[0+sqrt(2), 0+sqrt(2)]", "0", "0+sqrt(2)", true, "0", "0+sqrt(2)", true}, {"-2 0 1", "[0, 0]", "-2", "0", true, "-2", "0", true},
		{"1 -2 1", "(1, 3)", "0", "1", false, "4", "3", false}, {"1 -2 1", "(-1, 1)", "0", "1", false, "4", "-1", false}, {"1 -2 1", "[-1, 2]", "0", "1", true, "4", "-1", true},
	} {
		least, e := quadratic.Least(quad(c.q), interval(c.in))
		if least != (quadratic.Extreme{Value: re(c.least), At: re(c.at), Reached: c.reached}) || e != api.OK {
			t.Errorf("Least(%s, %s) = %s at %s, %v, %d", c.q, c.in, real.Print(least.Value), real.Print(least.At), least.Reached, e)
		}
		greatest, e := quadratic.Greatest(quad(c.q), interval(c.in))
		if greatest != (quadratic.Extreme{Value: re(c.greatest), At: re(c.atG), Reached: c.reachedG}) || e != api.OK {
			t.Errorf("Greatest(%s, %s) = %s at %s, %v, %d", c.q, c.in, real.Print(greatest.Value), real.Print(greatest.At), greatest.Reached, e)
		}
	}
	for in, want := range wrongIntervals() {
		for _, q := range functions() {
			if x, e := quadratic.Least(q, in); x != (quadratic.Extreme{}) || e != want {
				t.Errorf("Least(%s, %v) = %v, %d", show(q), in, x, e)
			}
			if x, e := quadratic.Greatest(q, in); x != (quadratic.Extreme{}) || e != want {
				t.Errorf("Greatest(%s, %v) = %v, %d", show(q), in, x, e)
			}
		}
	}
}

func TestP4_7AtInstants(t *testing.T) {
	cases(func(q api.Quad, in api.Interval) {
		hull := api.Interval{From: in.From, To: in.To}
		samples := within(q, hull)
		var values []api.Real
		for _, x := range samples {
			values = append(values, quadratic.At(q, x))
		}
		for sign, f := range map[int]func(api.Quad, api.Interval) (quadratic.Extreme, api.Errno){1: quadratic.Least, -1: quadratic.Greatest} {
			x, e := f(q, in)
			if e != api.OK || !contains(hull, x.At) || quadratic.At(q, x.At) != x.Value {
				t.Fatalf("extreme %d of %s, %s is %v, %d", sign, show(q), showInterval(in), x, e)
			}
			reached := false
			for i, y := range samples {
				order := sign * real.Compare(values[i], x.Value)
				if order < 0 || order == 0 && real.Compare(y, x.At) < 0 {
					t.Errorf("extreme %d of %s, %s is at %s", sign, show(q), showInterval(in), real.Print(y))
				}
				reached = reached || order == 0 && contains(in, y)
			}
			if x.Reached != reached {
				t.Errorf("extreme %d of %s, %s is reached: %v", sign, show(q), showInterval(in), reached)
			}
		}
	})
}

func TestP4_8ExtremesOfOpposites(t *testing.T) {
	cases(func(q api.Quad, in api.Interval) {
		least, _ := quadratic.Least(q, in)
		greatest, _ := quadratic.Greatest(quadratic.Scale(q, rational.FromInt(-1)), in)
		greatest.Value = real.Neg(greatest.Value)
		if least != greatest {
			t.Errorf("Least of %s and Greatest of its opposite over %s differ", show(q), showInterval(in))
		}
		atEnd := least.At == in.From || least.At == in.To
		if !atEnd && quadratic.SignAt(quadratic.Derivative(q), least.At) != 0 {
			t.Errorf("Least of %s over %s is at %s", show(q), showInterval(in), real.Print(least.At))
		}
	})
}

// A result that is changed is not seen by later calls.
func TestP4_8NewResults(t *testing.T) {
	q, in := quad("-2 0 1"), interval("[-2, 2]")
	roots, _ := quadratic.Roots(q)
	pieces, _ := quadratic.Signs(q, in)
	list, _ := quadratic.Where(q, in, true, false, true)
	rootsBefore, piecesBefore, listBefore := slices.Clone(roots), slices.Clone(pieces), slices.Clone(list)
	clear(roots)
	clear(pieces)
	clear(list)
	roots, _ = quadratic.Roots(q)
	pieces, _ = quadratic.Signs(q, in)
	list, _ = quadratic.Where(q, in, true, false, true)
	if !slices.Equal(roots, rootsBefore) || !slices.Equal(pieces, piecesBefore) || !slices.Equal(list, listBefore) {
		t.Error("results share memory")
	}
}
