package measure_test

import (
	"testing"
	"time"

	"exactppl/api"
	"exactppl/measure"
	"exactppl/polynomial"
	"exactppl/ratfunc"
	"exactppl/rational"
)

// P15.5

// posterior returns the posterior of m, and whether there is one.
func posterior(t *testing.T, m api.Measure) ([]api.Post, bool) {
	t.Helper()
	l, e := measure.Posterior(m)
	if e != api.OK && e != api.ErrEvidence {
		t.Fatalf("the posterior of %s has error %d", text(m), e)
	}
	return l, e == api.OK
}

func (m *maker) uncut() api.Measure {
	x := m.measure(1 + m.IntN(3))
	x.Cut = nil
	return x
}

func TestProbabilitiesAddUpToOne(t *testing.T) {
	m := newMaker(154)
	for range 500 {
		x := m.uncut()
		l, found := posterior(t, x)
		if !found {
			continue
		}
		total, _ := ratfunc.FromPoly(nil)
		for _, post := range l {
			total, _ = ratfunc.Add(total, post.Prob)
		}
		isQuot(t, "the sum of the probabilities of "+text(x), total, api.OK, "1")
		zeroth, e := measure.Moment(x, 0, 0)
		isQuot(t, "the moment of order 0 of "+text(x), zeroth, e, "1")
	}
}

func TestMarginalLaws(t *testing.T) {
	m := newMaker(155)
	for range 500 {
		n := 1 + m.IntN(3)
		x := m.measure(n)
		var outer, inner []int
		for range 1 + m.IntN(3) {
			inner = append(inner, m.IntN(n))
		}
		for range m.IntN(4) {
			outer = append(outer, m.IntN(len(inner)))
		}
		var both []int
		for _, i := range outer {
			both = append(both, inner[i])
		}
		once, _ := measure.Marginal(x, inner)
		twice, e := measure.Marginal(once, outer)
		direct, d := measure.Marginal(x, both)
		if e != api.OK || d != api.OK || !measure.Equal(twice, direct) || !same(twice, direct) {
			t.Fatalf("the marginal %v of the marginal %v of %s is %s", outer, inner, text(x), text(twice))
		}
		accepted, _ := measure.Accepted(x)
		kept, _ := measure.Accepted(twice)
		if !same(accepted, kept) {
			t.Fatalf("the marginal %v of %s accepts %s", both, text(x), textOf(kept))
		}
	}
}

func TestScaleKeepsThePosterior(t *testing.T) {
	m := newMaker(156)
	for range 300 {
		x, p := m.uncut(), m.mass()
		y, e := measure.Scale(x, p)
		if e != api.OK {
			t.Fatal(e)
		}
		a, found := posterior(t, x)
		b, kept := posterior(t, y)
		if found != kept || !same(a, b) {
			t.Fatalf("the posterior of %s times %s is another one", text(x), textOf(p))
		}
	}
}

func TestEvalOfThePosterior(t *testing.T) {
	m := newMaker(157)
	points := 0
	for range 500 {
		x := m.uncut()
		at := []api.Rat{m.rat(), m.rat(), m.rat()}
		l, found := posterior(t, x)
		accepted, _ := measure.Accepted(x)
		evidence, _ := polynomial.Eval(accepted, at)
		fixed, e := measure.Eval(x, at)
		if !found || e != api.OK || rational.Sign(evidence) == 0 {
			continue
		}
		points++
		values, found := posterior(t, fixed)
		want := map[int]api.Quot{}
		for i, r := range x.Rows {
			for _, post := range values {
				if same(post.Key, r.Key) {
					want[i] = post.Prob
				}
			}
		}
		if !found || len(want) != len(values) {
			t.Fatalf("the posterior of %s at %v has other rows", text(x), at)
		}
		for i, post := range l {
			value, e := ratfunc.Eval(post.Prob, at)
			wanted, _ := ratfunc.Eval(api.Quot{Num: want[i].Num, Den: constant(1, 1)}, nil)
			if e != api.OK || !rational.Equal(value, wanted) {
				t.Fatalf("row %d of the posterior of %s at %v is %v, not %v", i, text(x), at, value, wanted)
			}
		}
	}
	if points < 200 {
		t.Error("there are", points, "points")
	}
}

// Add is the sum of what Put adds, in any order, and Mass finds it.
func TestSumsOfRows(t *testing.T) {
	m := newMaker(158)
	for range 300 {
		n := m.IntN(4)
		x, y := m.measure(n), m.measure(n)
		total, e := measure.Add(x, y)
		if e != api.OK {
			t.Fatal(e)
		}
		placed := api.Measure{Rejected: append(copyOf(x.Rejected), y.Rejected...), Cut: append(copyOf(x.Cut), y.Cut...)}
		l := append(copyOf(x.Rows), y.Rows...)
		for _, i := range m.Perm(len(l)) {
			placed, e = measure.Put(placed, l[i].Key, l[i].Mass)
			if e != api.OK {
				t.Fatal(e)
			}
		}
		if !same(placed, total) && len(l) > 0 || !measure.Equal(placed, total) {
			t.Fatalf("the sum of %s and %s is %s", text(x), text(y), text(total))
		}
		for _, r := range total.Rows {
			if p, e := measure.Mass(total, r.Key); e != api.OK || !same(p, r.Mass) {
				t.Fatalf("the mass of %v in %s is %s", r.Key, text(total), textOf(p))
			}
		}
	}
}

// soon reports calls that take more than 20 seconds.
func soon(t *testing.T, name string, call func() api.Errno) {
	t.Helper()
	start := time.Now()
	if e := call(); e != api.OK {
		t.Errorf("%s has error %d", name, e)
	}
	if d := time.Since(start); d > 20*time.Second {
		t.Errorf("%s takes %v", name, d)
	}
}

// Measures of as many rows as there may be traces, with numbers, with polynomials, and with a monomial of its own for each row, are no trouble.
func TestManyRows(t *testing.T) {
	var numbers, products, monomials api.Measure
	p, notP := poly(term(1, 1, 1)), poly(term(1, 1), term(-1, 1, 1))
	q, notQ := poly(term(1, 1, 0, 1)), poly(term(1, 1), term(-1, 1, 0, 1))
	for i := range api.MaxTraces {
		key := []int{i % 200, i}
		numbers.Rows = append(numbers.Rows, row(constant(i*7919%1009+1, 1009), i/100, i%100))
		monomials.Rows = append(monomials.Rows, row(poly(term(1+i, 1, i/api.MaxExp, i%api.MaxExp)), key[1], key[0]))
	}
	for i := range 1 << 10 {
		w := constant(1, 1)
		for j := range 10 {
			factor := []api.Poly{p, notP, q, notQ}[j%2*2+i>>j%2]
			w, _ = polynomial.Mul(w, factor)
		}
		products.Rows = append(products.Rows, row(w, i, i%5))
	}
	for name, m := range map[string]api.Measure{"numbers": numbers, "products": products, "monomials": monomials} {
		soon(t, name+": Validate", func() api.Errno { return measure.Validate(m) })
		soon(t, name+": Accepted", func() api.Errno { _, e := measure.Accepted(m); return e })
		soon(t, name+": Add", func() api.Errno { _, e := measure.Add(m, m); return e })
		soon(t, name+": Put", func() api.Errno { _, e := measure.Put(m, []int{77, 3}, p); return e })
		soon(t, name+": Marginal", func() api.Errno { _, e := measure.Marginal(m, []int{1, 1, 0}); return e })
		soon(t, name+": one Marginal", func() api.Errno { _, e := measure.Marginal(m, nil); return e })
		soon(t, name+": Scale", func() api.Errno { _, e := measure.Scale(m, notP); return e })
		soon(t, name+": Eval", func() api.Errno { _, e := measure.Eval(m, []api.Rat{ratio(1, 2), ratio(1, 3)}); return e })
		if name != "monomials" {
			soon(t, name+": Posterior", func() api.Errno { _, e := measure.Posterior(m); return e })
			soon(t, name+": Moment", func() api.Errno { _, e := measure.Moment(m, 0, api.MaxPower); return e })
		}
	}
}
