package tape_test

import (
	"slices"
	"testing"

	"exactppl/api"
	"exactppl/lower"
	"exactppl/measure"
	"exactppl/parser"
	"exactppl/polynomial"
	"exactppl/tape"
	"exactppl/trace"
	"exactppl/unfold"
)

// P17.4, and what tapes of programs lead to

// fitting returns the least bases that fit a module, up to a limit.
func fitting(t *testing.T, m api.Module, most int) []int {
	t.Helper()
	var l []int
	for base := 1; base <= most; base++ {
		does, e := tape.Fits(m, base)
		if e != api.OK {
			t.Fatalf("the error of Fits(%+v, %d) is %d", m, base, e)
		}
		if does {
			l = append(l, base)
		}
	}
	return l
}

// longest returns the greatest number of choices of a trace.
func longest(l []api.Trace) int {
	n := 0
	for _, u := range l {
		n = max(n, len(u.Choices))
	}
	return n
}

// checkFitting checks for a base that fits that Count is the measure of the module, which has these traces, unless the tapes are shorter than the longest trace. It returns for how many lengths Count has no error.
func checkFitting(t *testing.T, m api.Module, base int, want api.Measure, l []api.Trace) int {
	t.Helper()
	done := 0
	for n := 0; n < 7 && tapesOf(base, n) <= 4000; n++ {
		got, e := tape.Count(m, base, n)
		isShort := n < longest(l)
		if isShort && e != api.ErrTape || !isShort && (e != api.OK || !same(got, want)) {
			t.Fatalf("Count(%+v, %d, %d) is %s with the error %d, and the measure is %s", m, base, n, masses(got), e, masses(want))
		}
		if !isShort {
			done++
		}
	}
	return done
}

func TestFittingBases(t *testing.T) {
	m := newMaker(175)
	done := 0
	for range 300 {
		x := m.module()
		l, e := trace.All(x)
		want, f := trace.Measure(x)
		if e != api.OK || f != api.OK {
			t.Fatalf("the errors for %+v are %d and %d", x, e, f)
		}
		for _, base := range fitting(t, x, 12) {
			done += checkFitting(t, x, base, want, l)
		}
	}
	if done < 500 {
		t.Errorf("there are %d tapes that are long enough", done)
	}
}

// The trace of Sample is one of all traces, also if the base does not fit. It takes the beginning of the tape, and leaves what follows.
func TestTraces(t *testing.T) {
	m := newMaker(176)
	done := 0
	for range 3000 {
		x := m.arguments()
		if errorOf(x.M, x.Base) != api.OK {
			continue
		}
		l, e := trace.All(x.M)
		if e != api.OK {
			t.Fatalf("the error of All(%+v) is %d", x.M, e)
		}
		u, n, e := tape.Sample(x.M, x.Base, x.Tape)
		if e != api.OK {
			continue
		}
		if !slices.ContainsFunc(l, func(v api.Trace) bool { return same(u, v) }) || n != len(u.Choices) {
			t.Fatalf("Sample(%+v, %d, %v) is %s, which is no trace, or it takes %d", x.M, x.Base, x.Tape, text(u), n)
		}
		for _, more := range [][]int{nil, {0}, {-1, x.Base}} {
			v, k, e := tape.Sample(x.M, x.Base, append(slices.Clone(x.Tape[:n]), more...))
			if e != api.OK || k != n || !same(u, v) {
				t.Fatalf("Sample(%+v, %d) of the first %d numbers of %v and %v is %s with the error %d", x.M, x.Base, n, x.Tape, more, text(v), e)
			}
		}
		for k := range n {
			if _, _, e := tape.Sample(x.M, x.Base, x.Tape[:k]); e != api.ErrTape {
				t.Fatalf("Sample(%+v, %d) of the first %d numbers of %v has the error %d", x.M, x.Base, k, x.Tape, e)
			}
		}
		done++
	}
	if done < 1000 {
		t.Errorf("there are %d traces", done)
	}
}

// The masses of all tapes add up to 1, and longer tapes have the same measure.
func TestTotals(t *testing.T) {
	m := newMaker(177)
	done := 0
	for range 1500 {
		x := m.arguments()
		got, e := tape.Count(x.M, x.Base, x.N)
		if e != api.OK {
			continue
		}
		sum, e := measure.Total(got)
		if e != api.OK || !same(sum, constant("1")) {
			t.Fatalf("the total of Count(%+v, %d, %d) is %s with the error %d", x.M, x.Base, x.N, textOf(sum), e)
		}
		if longer, e := tape.Count(x.M, x.Base, x.N+1); e != api.ErrLimit && e != api.ErrRange && (e != api.OK || !same(longer, got)) {
			t.Fatalf("Count(%+v, %d, %d) is %s, and then %s with the error %d", x.M, x.Base, x.N, masses(got), masses(longer), e)
		}
		done++
	}
	if done < 500 {
		t.Errorf("there are %d measures", done)
	}
}

// lowered returns the module of a program, with k unfoldings.
func lowered(t *testing.T, s string, k int) api.Module {
	t.Helper()
	p, at, e := parser.Parse(s)
	if e != api.OK {
		t.Fatalf("%s: the error at %v is %d", s, at, e)
	}
	m, e := lower.Lower(p)
	if e != api.OK {
		t.Fatalf("%s: the error of Lower is %d", s, e)
	}
	if m, e = unfold.Unfold(m, k); e != api.OK {
		t.Fatalf("%s: the error of Unfold is %d", s, e)
	}
	return m
}

// Programs, with the examples of the document among them.
func TestPrograms(t *testing.T) {
	for _, c := range []struct {
		program    string
		k, base, n int
		want       string
	}{
		{"var x: bool; var y: bool; x ~ flip(1/3); y ~ flip(1/2); observe x || y; return x;", 0, 6, 2, "[0] 1/3, [1] 1/3, rejected 1/3, cut 0"},
		{"var b: bool; while !b { b ~ flip(1/2); } return b;", 3, 2, 3, "[1] 7/8, rejected 0, cut 1/8"},
		{"var b: bool; while !b { b ~ flip(1/2); } return b;", 3, 3, 3, "[1] 19/27, rejected 0, cut 8/27"},
		{"func f(k: int[0, 3]) { var r: bool; r ~ flip(1/2); if 0 < k { if r { r := f(k - 1); } } return r; } var b: bool; b := f(2); return b;", 3, 2, 5, "[0] 7/8, [1] 1/8, rejected 0, cut 0"},
		{"var l: list[2] bool; l := push(push([true], false), true); return l;", 0, 7, 0, "[1 1 0] 1, rejected 0, cut 0"},
		{"var x: bool; var y: bool; x ~ flip(1/2); y ~ flip(1/3); observe x; return x;", 0, 6, 3, "[1] 1/2, rejected 1/2, cut 0"},
		{"var n: int[0, 3]; n ~ binomial(3, 1/2); return n;", 0, 8, 1, "[0] 1/8, [1] 3/8, [2] 3/8, [3] 1/8, rejected 0, cut 0"},
		{"var n: int[0, 3]; n ~ binomial(3, 1/2); return n;", 0, 4, 1, "[0] 1/4, [1] 1/4, [2] 1/2, rejected 0, cut 0"},
		{"var i: int[0, 3]; i ~ uniform(-2, 7); return i;", 0, 10, 1, "[0] 3/10, [1] 1/10, [2] 1/10, [3] 1/2, rejected 0, cut 0"},
		{"var a: bool; var i: int[0, 9]; a ~ flip(1/4); weight 1/2; if a { i := 3; weight 1/3; } return i;", 0, 12, 3, "[0] 3/8, [3] 1/24, rejected 7/12, cut 0"},
	} {
		wantCount(t, lowered(t, c.program, c.k), c.base, c.n, c.want)
	}
}

// A fair die is thrown with the digits of a number until it shows a six.
func TestDice(t *testing.T) {
	m := lowered(t, "var d: int[1, 6]; while d < 6 { d ~ uniform(1, 6); } return d;", 4)
	for _, c := range []struct {
		numbers []int
		taken   int
		end     int
	}{
		{[]int{5, 0, 0}, 1, api.EndAccepted}, {[]int{0, 5}, 2, api.EndAccepted}, {[]int{0, 1, 2, 5}, 4, api.EndAccepted}, {[]int{4, 3, 2, 1, 5}, 4, api.EndCut},
	} {
		u, n, e := tape.Sample(m, 6, c.numbers)
		want, _ := polynomial.Pow(polynomial.Const(fraction("1/6")), c.taken)
		if e != api.OK || n != c.taken || u.End != c.end || !same(u.Mass, want) || u.State[0] != c.numbers[n-1]+1 {
			t.Errorf("Sample of %v is %s, it takes %d, the error is %d", c.numbers, text(u), n, e)
		}
	}
	x, e := tape.Count(m, 6, 5)
	if got := masses(x); e != api.OK || got != "[6] 671/1296, rejected 0, cut 625/1296" {
		t.Errorf("the measure is %s with the error %d", got, e)
	}
}
