package measure_test

import (
	"math"
	"testing"

	"exactppl/api"
	"exactppl/measure"
	"exactppl/ratfunc"
	"exactppl/rational"
)

func TestPosterior(t *testing.T) {
	m := api.Measure{Rows: rows(row(poly(term(1, 1, 1, 1)), 0, 7), row(poly(term(1, 1, 1), term(-1, 1, 1, 1)), 1, -7)), Rejected: poly(term(5, 1, 9))} // p q and p - p q
	l, e := measure.Posterior(m)
	if e != api.OK || len(l) != 2 || !same(l[0].Key, []int{0, 7}) || !same(l[1].Key, []int{1, -7}) {
		t.Fatal(l, e)
	}
	isQuot(t, "the first probability", l[0].Prob, e, "q")
	isQuot(t, "the second probability", l[1].Prob, e, "-q + 1")
	l, e = measure.Posterior(api.Measure{Rows: rows(row(poly(term(-3, 1, api.MaxExp))))})
	if e != api.OK || len(l) != 1 || len(l[0].Key) != 0 {
		t.Fatal(l, e)
	}
	isQuot(t, "the probability of the empty key", l[0].Prob, e, "1")
}

// The errors of Posterior and Moment in their order: the form, the cut mass, the evidence, the range.
func TestPosteriorErrors(t *testing.T) {
	half, nothing := constant(1, 2), rows(row(constant(1, 2), 1), row(constant(-1, 2), 2))
	for i, x := range []struct {
		m    api.Measure
		want api.Errno
	}{
		{api.Measure{}, api.ErrEvidence},
		{api.Measure{Rejected: half}, api.ErrEvidence},
		{api.Measure{Rows: nothing}, api.ErrEvidence},
		{api.Measure{Rows: nothing, Rejected: half}, api.ErrEvidence},
		{api.Measure{Rows: nothing, Cut: poly(term(1, 1, 1))}, api.ErrCut},
		{api.Measure{Cut: half}, api.ErrCut},
		{api.Measure{Rows: rows(row(half, 1)), Cut: constant(-1, 9)}, api.ErrCut},
		{api.Measure{Rows: rows(row(half, 1)), Cut: poly(term(1, 1, api.MaxExp))}, api.ErrCut},
		{api.Measure{Rows: rows(row(half, 1), row(half, 1)), Cut: half}, api.ErrForm},
		{api.Measure{Rows: nothing, Rejected: invalid[0]}, api.ErrForm},
		{api.Measure{Cut: invalid[0]}, api.ErrForm},
	} {
		if l, e := measure.Posterior(x.m); e != x.want || len(l) > 0 {
			t.Error("Posterior", i, l, e)
		}
		for _, y := range [][2]int{{0, 1}, {1, 1}, {-1, 1}, {0, -1}, {0, api.MaxPower + 1}} {
			if f, e := measure.Moment(x.m, y[0], y[1]); e != x.want || len(f.Num)+len(f.Den) > 0 {
				t.Error("Moment", i, y, f, e)
			}
		}
	}
	for _, p := range zeros {
		m := api.Measure{Rows: rows(row(half, 1)), Cut: p}
		if l, e := measure.Posterior(m); e != api.OK || len(l) != 1 {
			t.Error("the cut mass zero:", l, e)
		}
	}
}

func TestMoment(t *testing.T) {
	m := api.Measure{Rows: rows(row(poly(term(1, 1, 1)), 0, -3), row(constant(1, 1), 1, -3), row(poly(term(-1, 1, 1)), 2, 5))}
	for _, x := range []struct {
		cell, n int
		want    string
	}{
		{0, 0, "1"}, {0, 1, "-2*p + 1"}, {0, 2, "-4*p + 1"}, {0, 64, "-18446744073709551616*p + 1"},
		{1, 0, "1"}, {1, 1, "-8*p - 3"}, {1, 2, "-16*p + 9"}, {1, 3, "-152*p - 27"},
	} {
		f, e := measure.Moment(m, x.cell, x.n)
		isQuot(t, "a moment", f, e, x.want)
	}
	zero := api.Measure{Rows: rows(row(constant(2, 1), 0))}
	f, e := measure.Moment(zero, 0, 0)
	isQuot(t, "0^0", f, e, "1")
	f, e = measure.Moment(zero, 0, 1)
	isQuot(t, "0^1", f, e, "0")
	for _, x := range [][2]int{{-1, 1}, {2, 1}, {math.MaxInt, 1}, {math.MinInt, 1}, {0, -1}, {0, api.MaxPower + 1}, {1, math.MinInt}, {1, math.MaxInt}, {2, -1}} {
		if f, e := measure.Moment(m, x[0], x[1]); e != api.ErrRange || len(f.Num)+len(f.Den) > 0 {
			t.Error("the moment for", x, "is", f, e)
		}
	}
	if _, e := measure.Moment(api.Measure{Rows: rows(row(constant(1, 2)))}, 0, 0); e != api.ErrRange {
		t.Error("a moment of the empty key: error", e)
	}
}

// Moments of the numbers with the greatest absolute values are exact, and their parts may cancel.
func TestMomentOfGreatNumbers(t *testing.T) {
	for _, x := range []int{math.MinInt, math.MinInt + 1, -api.MaxArith, api.MaxArith, math.MaxInt} {
		m := api.Measure{Rows: rows(row(poly(term(1, 1, api.MaxExp)), x))}
		f, e := measure.Moment(m, 0, api.MaxPower)
		want, _ := rational.Pow(rational.Int(x), api.MaxPower)
		isQuot(t, "the power of a great number", f, e, rational.Format(want))
	}
	m := api.Measure{Rows: rows(row(constant(1, 2), -math.MaxInt), row(constant(1, 2), math.MaxInt))}
	for n := range api.MaxPower + 1 {
		want := rational.Int(0)
		if n%2 == 0 {
			want, _ = rational.Pow(rational.Int(math.MaxInt), n)
		}
		f, e := measure.Moment(m, 0, n)
		isQuot(t, "the mean of two powers", f, e, rational.Format(want))
	}
}

// A moment can have common factors with the evidence that no probability has.
func TestMomentInLowestTerms(t *testing.T) {
	p, one := term(1, 1, 1), term(1, 1)
	m := api.Measure{Rows: rows(row(poly(one), 3, 0), row(poly(p), 3, 1), row(poly(p), 5, -1))} // the evidence is 1 + 2 p
	for _, x := range []struct {
		cell, n int
		want    string
	}{{0, 0, "1"}, {0, 1, "(4*p + 3/2)/(p + 1/2)"}, {1, 1, "0"}, {1, 2, "(p)/(p + 1/2)"}} {
		f, e := measure.Moment(m, x.cell, x.n)
		isQuot(t, "a moment", f, e, x.want)
	}
	m.Rows[2].Mass = poly(term(-1, 1, 2), term(-1, 1, 1)) // the evidence is 1 - p^2
	f, e := measure.Moment(m, 1, 2)                       // -p^2 divided by it
	isQuot(t, "a moment", f, e, "(p^2)/(p^2 - 1)")
	f, e = measure.Moment(m, 0, 1) // (1 + p) (3 - 5 p) divided by it
	isQuot(t, "a moment", f, e, "(5*p - 3)/(p - 1)")
}

func TestMarginal(t *testing.T) {
	m := api.Measure{
		Rows:     rows(row(constant(1, 6), 0, 5), row(poly(term(1, 1, 1)), 1, 4), row(constant(1, 3), 1, 5), row(poly(term(-1, 1, 1)), 2, 4)),
		Rejected: constant(2, 4), Cut: poly(term(1, 7), term(0, 1, 5)),
	}
	for _, x := range []struct {
		cells []int
		want  string
	}{
		{[]int{0, 1}, "0 5 : 1/6; 1 4 : p; 1 5 : 1/3; 2 4 : -p; "},
		{[]int{1, 0}, "4 1 : p; 4 2 : -p; 5 0 : 1/6; 5 1 : 1/3; "},
		{[]int{0}, "0 : 1/6; 1 : p + 1/3; 2 : -p; "},
		{[]int{1}, "5 : 1/2; "},
		{[]int{1, 1, 1}, "5 5 5 : 1/2; "},
		{[]int{0, 1, 0}, "0 5 0 : 1/6; 1 4 1 : p; 1 5 1 : 1/3; 2 4 2 : -p; "},
		{nil, ": 1/2; "},
	} {
		n, e := measure.Marginal(m, x.cells)
		is(t, "a marginal", n, e, x.want+"rejected 1/2; cut 1/7")
	}
	for _, cells := range [][]int{{2}, {-1}, {0, 1, 2}, {0, -1, 1}, {math.MaxInt}, {math.MinInt, 0}} {
		n, e := measure.Marginal(m, cells)
		fails(t, "a marginal of no element", n, e, api.ErrRange)
		n, e = measure.Marginal(api.Measure{Rejected: m.Rejected, Cut: m.Cut}, cells)
		is(t, "a marginal without rows", n, e, "rejected 1/2; cut 1/7")
		n, e = measure.Marginal(api.Measure{Rows: m.Rows, Cut: invalid[1]}, cells)
		fails(t, "a marginal of what is not valid", n, e, api.ErrForm)
	}
	empty := api.Measure{Rows: rows(row(constant(1, 2)))}
	n, e := measure.Marginal(empty, nil)
	is(t, "the marginal of the empty key", n, e, ": 1/2; rejected 0; cut 0")
	n, e = measure.Marginal(empty, []int{0})
	fails(t, "an element of the empty key", n, e, api.ErrRange)
	none := api.Measure{Rows: rows(row(constant(1, 2), 1), row(constant(-1, 2), 2))}
	n, e = measure.Marginal(none, nil)
	is(t, "a marginal without mass", n, e, "rejected 0; cut 0")
}

func TestEval(t *testing.T) {
	m := api.Measure{
		Rows:     rows(row(poly(term(1, 1, 1)), 0), row(poly(term(1, 1, 0, 1)), 1), row(poly(term(1, 1, 0, 0, 1), term(1, 1)), 2), row(poly(term(1, 1, 1), term(-1, 1, 0, 1)), 3)),
		Rejected: poly(term(1, 1, 1, 1), term(1, 1)), Cut: poly(term(1, 1, 2)),
	}
	half, third := ratio(1, 2), ratio(1, 3)
	for _, x := range []struct {
		at   []api.Rat
		want string
	}{
		{nil, "2 : 1; rejected 1; cut 0"},
		{[]api.Rat{half}, "0 : 1/2; 2 : 1; 3 : 1/2; rejected 1; cut 1/4"},
		{[]api.Rat{half, half}, "0 : 1/2; 1 : 1/2; 2 : 1; rejected 5/4; cut 1/4"},
		{[]api.Rat{{}, third}, "1 : 1/3; 2 : 1; 3 : -1/3; rejected 1; cut 0"},
		{[]api.Rat{rational.Int(-3), third}, "0 : -3; 1 : 1/3; 2 : 1; 3 : -10/3; rejected 0; cut 9"},
		{[]api.Rat{half, half, rational.Int(-1)}, "0 : 1/2; 1 : 1/2; rejected 5/4; cut 1/4"},
		{[]api.Rat{{Num: []uint32{2, 0}, Den: []uint32{4, 0, 0}}, {Num: []uint32{7}}, {}, {}, {}, {}, {}, half}, "0 : 1/2; 2 : 1; 3 : 1/2; rejected 1; cut 1/4"},
	} {
		n, e := measure.Eval(m, x.at)
		is(t, "Eval", n, e, x.want)
	}
	last := api.Measure{Cut: api.Poly{{Mono: api.Mono{api.MaxVars - 1: 2}, Coef: ratio(1, 1)}}}
	n, e := measure.Eval(last, []api.Rat{{}, {}, {}, {}, {}, {}, {}, third})
	is(t, "Eval for the last variable", n, e, "rejected 0; cut 1/9")
	for _, x := range []api.Measure{m, {}, last, {Rows: m.Rows}} {
		n, e = measure.Eval(x, make([]api.Rat, api.MaxVars+1))
		fails(t, "Eval for too many numbers", n, e, api.ErrRange)
	}
	for _, x := range notValid() {
		n, e = measure.Eval(x, make([]api.Rat, api.MaxVars+1))
		fails(t, "Eval of what is not valid", n, e, api.ErrForm)
	}
}

// The evidence may be a polynomial of which no row is a multiple.
func TestProbabilitiesWithDenominators(t *testing.T) {
	m := api.Measure{Rows: rows(row(poly(term(1, 1, 1, 1)), 0), row(poly(term(1, 1, 2)), 1), row(poly(term(2, 1, 1)), 2))} // p q, p^2, 2 p
	l, e := measure.Posterior(m)
	if e != api.OK {
		t.Fatal(e)
	}
	for i, want := range []string{"(q)/(p + q + 2)", "(p)/(p + q + 2)", "(2)/(p + q + 2)"} {
		isQuot(t, "a probability", l[i].Prob, e, want)
		f, e := ratfunc.Norm(l[i].Prob)
		if e != api.OK || !same(f, l[i].Prob) {
			t.Error("not in normal form:", l[i].Prob)
		}
	}
}
