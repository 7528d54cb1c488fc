package trace_test

import (
	"fmt"
	"slices"
	"testing"

	"exactppl/api"
	"exactppl/core"
	"exactppl/lower"
	"exactppl/measure"
	"exactppl/parser"
	"exactppl/polynomial"
	"exactppl/trace"
	"exactppl/unfold"
)

// P16.4, and what the traces of programs are

// chosen returns the indices of a trace.
func chosen(t api.Trace) []int {
	return each(t.Choices, func(c api.Choice) int { return c.Outcome })
}

// checkLaws checks what holds for the traces of every module.
func checkLaws(t *testing.T, m api.Module, l []api.Trace) {
	t.Helper()
	one := constant(1, 1)
	if got := total(l, func(api.Trace) bool { return true }); !same(got, one) {
		t.Errorf("the masses of %+v add up to %s", m, textOf(got))
	}
	x, e := trace.Measure(m)
	if sum, f := measure.Total(x); e != api.OK || f != api.OK || !same(sum, one) {
		t.Errorf("the measure of %+v has the total %s, the errors %d and %d", m, textOf(sum), e, f)
	}
	for i, u := range l {
		if i > 0 && slices.Compare(chosen(l[i-1]), chosen(u)) >= 0 {
			t.Errorf("the traces %s and %s of %+v are not in order", text(l[i-1]), text(u), m)
		}
		for j, v := range l {
			n := min(len(u.Choices), len(v.Choices))
			if i != j && slices.Equal(u.Choices[:n], v.Choices[:n]) {
				t.Errorf("the choices of the traces %s and %s of %+v do not differ", text(u), text(v), m)
			}
		}
		for _, more := range [][]int{nil, {0}, {-1}} {
			got, n, e := trace.Run(m, append(chosen(u), more...))
			if e != api.OK || n != len(u.Choices) || !same(got, u) {
				t.Errorf("Run of the choices of %s in %+v is %s, it takes %d, the error is %d", text(u), m, text(got), n, e)
			}
		}
		for n := range u.Choices {
			if _, _, e := trace.Run(m, chosen(u)[:n]); e != api.ErrTape {
				t.Errorf("the error of Run with the first %d choices of %s in %+v is %d", n, text(u), m, e)
			}
		}
	}
}

func TestLaws(t *testing.T) {
	m := newMaker(169)
	done := 0
	for range 2000 {
		x := m.module()
		l, e := trace.All(x)
		if e != api.OK {
			t.Fatalf("the error of All(%+v) is %d", x, e)
		}
		if len(l) < 60 {
			checkLaws(t, x, l)
			done += truthOf(len(l) > 3)
		}
		if t.Failed() {
			return
		}
	}
	if done < 300 {
		t.Errorf("%d modules have more than 3 traces", done)
	}
}

// The measure at a point is the measure of the module at the point.
func TestPoints(t *testing.T) {
	m := newMaker(170)
	done := 0
	for range 1500 {
		x := m.module()
		point := many(m, x.Params, x.Params, func() api.Rat { return ratio(m.IntN(4), 3) })
		at, e := core.At(x, point)
		if e != api.OK || x.Params == 0 {
			continue
		}
		whole, e := trace.Measure(x)
		got, f := measure.Eval(whole, point)
		want, g := trace.Measure(at)
		if e != api.OK || f != api.OK || g != api.OK || !same(got, want) {
			t.Fatalf("the measure of %+v at %v is %s with the errors %d and %d, not %s with %d", x, point, masses(got), e, f, masses(want), g)
		}
		done++
	}
	if done < 300 {
		t.Errorf("%d modules have a point", done)
	}
}

// lowered returns the module of a program, with k unfoldings.
func lowered(t *testing.T, s string, k int) api.Module {
	t.Helper()
	p, at, e := parser.Parse(s)
	if e != api.OK {
		t.Fatalf("%s: the error at %v is %d", s, at, e)
	}
	m, e := lower.Lower(p)
	if e != api.OK {
		t.Fatalf("%s: the error of Lower is %d", s, e)
	}
	if m, e = unfold.Unfold(m, k); e != api.OK {
		t.Fatalf("%s: the error of Unfold is %d", s, e)
	}
	return m
}

// Programs, with the examples of the document among them.
func TestPrograms(t *testing.T) {
	for _, c := range []struct {
		program string
		k       int
		want    string
	}{
		{"var x: bool; var y: bool; x ~ flip(1/3); y ~ flip(1/2); observe x || y; return x;", 0, "[0] 1/3, [1] 1/3, rejected 1/3, cut 0"},
		{"param p; var x: bool; x ~ flip(p); observe x || false; return x;", 0, "[1] p, rejected -p + 1, cut 0"},
		{"param p; var x: bool; var y: bool; x ~ flip(p); y ~ flip(p); observe x || y; return x;", 0, "[0] -p^2 + p, [1] p, rejected p^2 - 2*p + 1, cut 0"},
		{"var b: bool; while !b { b ~ flip(1/2); } return b;", 3, "[1] 7/8, rejected 0, cut 1/8"},
		{"param p; var b: bool; while !b { b ~ flip(p); } return b;", 2, "[1] -p^2 + 2*p, rejected 0, cut p^2 - 2*p + 1"},
		{"func f(k: int[0, 3]) { var r: bool; r ~ flip(1/2); if 0 < k { if r { r := f(k - 1); } } return r; } var b: bool; b := f(2); return b;", 3, "[0] 7/8, [1] 1/8, rejected 0, cut 0"},
		{"var l: list[2] bool; l := push(push([true], false), true); return l;", 0, "[1 1 0] 1, rejected 0, cut 0"},
		{"var x: bool; var y: bool; x ~ flip(1/2); y ~ flip(1/3); observe x; return x;", 0, "[1] 1/2, rejected 1/2, cut 0"},
		{"param p; var n: int[0, 3]; n ~ binomial(3, p); return n;", 0, "[0] -p^3 + 3*p^2 - 3*p + 1, [1] 3*p^3 - 6*p^2 + 3*p, [2] -3*p^3 + 3*p^2, [3] p^3, rejected 0, cut 0"},
		{"var i: int[0, 3]; i ~ uniform(-2, 7); return i;", 0, "[0] 3/10, [1] 1/10, [2] 1/10, [3] 1/2, rejected 0, cut 0"},
		{"var a: bool; var i: int[0, 9]; a ~ flip(1/4); weight 1/2; if a { i := 3; weight 1/3; } return i;", 0, "[0] 3/8, [3] 1/24, rejected 7/12, cut 0"},
		{"var i: nat; var j: nat; i ~ uniform(0, 2); j ~ uniform(0, 2); i := i * j - 1; return i;", 0, "[0] 2/3, [1] 2/9, [3] 1/9, rejected 0, cut 0"},
	} {
		m := lowered(t, c.program, c.k)
		x, e := trace.Measure(m)
		if got := masses(x); e != api.OK || got != c.want {
			t.Errorf("the measure of %s is %s with the error %d, not %s", c.program, got, e, c.want)
		}
		check(t, m, nil)
		l, _ := trace.All(m)
		checkLaws(t, m, l)
	}
}

// The runs of a fair die that is thrown until it shows a six, at most five times, are as probable as the powers say.
func TestRunsOfALoop(t *testing.T) {
	m := lowered(t, "var d: int[1, 6]; while d < 6 { d ~ uniform(1, 6); } return d;", 5)
	l, e := trace.All(m)
	if e != api.OK {
		t.Fatal("the error is", e)
	}
	for _, u := range l {
		n := len(u.Choices)
		want, _ := polynomial.Pow(constant(1, 6), n)
		ended := u.Choices[n-1].Outcome == 5
		if !same(u.Mass, want) || ended != (u.End == api.EndAccepted) || !ended && (u.End != api.EndCut || n != 5) {
			t.Errorf("the trace %s is wrong", text(u))
		}
	}
	x, e := trace.Measure(m)
	if got, want := masses(x), fmt.Sprintf("[6] %d/7776, rejected 0, cut %d/7776", 7776-3125, 3125); e != api.OK || got != want {
		t.Errorf("the measure is %s with the error %d, not %s", got, e, want)
	}
}
