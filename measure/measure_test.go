package measure_test

import (
	"math"
	"testing"

	"exactppl/api"
	"exactppl/measure"
	"exactppl/polynomial"
	"exactppl/ratfunc"
	"exactppl/rational"
)

var names = []string{"p", "q", "r"}

func ratio(num, den int) api.Rat {
	r, _ := rational.New(num, den)
	return r
}

// term is num / den times the powers of the variables 0, 1 and so on with the given exponents.
func term(num, den int, exps ...int) api.Term {
	t := api.Term{Coef: ratio(num, den)}
	copy(t.Mono[:], exps)
	return t
}

// poly is the sum of some terms, as they are.
func poly(terms ...api.Term) api.Poly { return terms }

func constant(num, den int) api.Poly { return poly(term(num, den)) }

func row(mass api.Poly, key ...int) api.Row { return api.Row{Key: key, Mass: mass} }

func rows(l ...api.Row) []api.Row { return l }

// invalid are polynomials that are not valid. A term whose coefficient is zero has an exponent, too.
var invalid = []api.Poly{
	poly(term(1, 1, -1)),
	poly(term(1, 1, api.MaxExp+1)),
	poly(term(1, 1), term(1, 1, 0, 0, math.MinInt)),
	poly(term(1, 1, 1), term(0, 1, 0, math.MaxInt)),
	{{Mono: api.Mono{api.MaxVars - 1: -1}, Coef: ratio(1, 2)}},
	{{Mono: api.Mono{api.MaxVars - 1: api.MaxExp + 1}, Coef: ratio(1, 2)}},
}

// zeros are representations of the polynomial 0.
var zeros = []api.Poly{nil, {}, {{}}, constant(0, 1), poly(term(1, 2, 1), term(-2, 4, 1)), poly(term(0, 1, api.MaxExp), term(1, 1), term(-1, 1))}

// text writes a measure.
func text(m api.Measure) string {
	s := ""
	for _, r := range m.Rows {
		for _, x := range r.Key {
			s += rational.Format(rational.Int(x)) + " "
		}
		s += ": " + textOf(r.Mass) + "; "
	}
	return s + "rejected " + textOf(m.Rejected) + "; cut " + textOf(m.Cut)
}

func textOf(p api.Poly) string {
	s, e := polynomial.Format(p, []string{"p", "q", "r", "s", "t", "u", "v", "w"})
	if e != api.OK {
		return "not valid"
	}
	return s
}

// is reports a measure other than the one with a text, or an error.
func is(t *testing.T, name string, m api.Measure, e api.Errno, want string) {
	t.Helper()
	if got := text(m); e != api.OK || got != want {
		t.Errorf("%s is %s, error %d, not %s", name, got, e, want)
	}
}

// fails reports an error other than want, or a measure beside the error.
func fails(t *testing.T, name string, m api.Measure, e, want api.Errno) {
	t.Helper()
	if e != want || len(m.Rows)+len(m.Rejected)+len(m.Cut) > 0 {
		t.Errorf("%s is %s, error %d, not error %d", name, text(m), e, want)
	}
}

// isPoly reports a polynomial other than the one with a text, or an error.
func isPoly(t *testing.T, name string, p api.Poly, e api.Errno, want string) {
	t.Helper()
	if got := textOf(p); e != api.OK || got != want {
		t.Errorf("%s is %s, error %d, not %s", name, got, e, want)
	}
}

// isQuot reports a rational function other than the one with a text, or an error.
func isQuot(t *testing.T, name string, f api.Quot, e api.Errno, want string) {
	t.Helper()
	if got, _ := ratfunc.Format(f, names); e != api.OK || got != want {
		t.Errorf("%s is %s, error %d, not %s", name, got, e, want)
	}
}

// example is the measure of the chapter's example.
var example = api.Measure{Rows: rows(row(constant(1, 6), 0), row(constant(1, 3), 1)), Rejected: constant(1, 2)}

func TestExample(t *testing.T) {
	l, e := measure.Posterior(example)
	if e != api.OK || len(l) != 2 {
		t.Fatal(l, e)
	}
	isQuot(t, "the posterior of 0", l[0].Prob, e, "1/3")
	isQuot(t, "the posterior of 1", l[1].Prob, e, "2/3")
	f, e := measure.Moment(example, 0, 1)
	isQuot(t, "the first moment", f, e, "2/3")
}

// The posteriors of the document's examples 1 to 4, from the measures of the programs.
func TestDocumentExamples(t *testing.T) {
	p, square := term(1, 1, 1), term(1, 1, 2)
	for _, x := range []struct {
		m        api.Measure
		evidence string
		want     []string
	}{
		{api.Measure{Rows: rows(row(constant(1, 3), 0), row(constant(1, 3), 1)), Rejected: constant(1, 3)}, "2/3", []string{"1/2", "1/2"}},
		{api.Measure{Rows: rows(row(poly(p), 1)), Rejected: poly(term(1, 1), term(-1, 1, 1))}, "p", []string{"1"}},
		{api.Measure{Rows: rows(row(poly(p, term(-1, 1, 2)), 0), row(poly(p), 1)), Rejected: poly(term(1, 1), term(-2, 1, 1), square)}, "-p^2 + 2*p", []string{"(p - 1)/(p - 2)", "(-1)/(p - 2)"}},
		{api.Measure{Rows: rows(row(constant(1, 2), 0), row(constant(1, 4), 1)), Rejected: constant(1, 4)}, "3/4", []string{"2/3", "1/3"}},
	} {
		accepted, e := measure.Accepted(x.m)
		isPoly(t, "the evidence", accepted, e, x.evidence)
		total, e := measure.Total(x.m)
		isPoly(t, "the total mass", total, e, "1")
		l, e := measure.Posterior(x.m)
		if len(l) != len(x.want) {
			t.Fatal(l, e)
		}
		for i, want := range x.want {
			isQuot(t, "the posterior", l[i].Prob, e, want)
		}
	}
}

// The sentence that says which measures are valid, part by part.
func TestValid(t *testing.T) {
	half := constant(1, 2)
	for i, m := range []api.Measure{
		{},
		{Rows: []api.Row{}, Rejected: api.Poly{}},
		example,
		{Rows: rows(row(half))},
		{Rows: rows(row(constant(-1, 2), -5)), Rejected: constant(-7, 1), Cut: constant(3, 1)}, // masses need not be probabilities
		{Rows: rows(row(half, math.MinInt), row(half, -1), row(half, 0), row(half, math.MaxInt))},
		{Rows: rows(row(half, 0, 9), row(half, 1, -9), row(half, 1, -8))},
		{Rows: rows(row(poly(term(1, 1, 1), term(-1, 1, 1), term(1, 9)), 1))},
		{Rows: rows(row(poly(term(1, 1, api.MaxExp, api.MaxExp)), 1)), Cut: api.Poly{{Mono: api.Mono{api.MaxVars - 1: api.MaxExp}, Coef: ratio(1, 2)}}},
	} {
		if e := measure.Validate(m); e != api.OK {
			t.Error("measure", i, "error", e)
		}
	}
	for i, m := range []api.Measure{
		{Rows: rows(row(half, 1), row(half, 1))},
		{Rows: rows(row(half), row(half))},
		{Rows: rows(row(half, 1), row(half, 0))},
		{Rows: rows(row(half, 1, 2), row(half, 1, 1))},
		{Rows: rows(row(half, 1, 2), row(half, 0, 3))},
		{Rows: rows(row(half, 0), row(half, 1), row(half, 3), row(half, 2))},
		{Rows: rows(row(half, math.MaxInt), row(half, math.MinInt))},
		{Rows: rows(row(half, 1), row(half, 1, 2))},
		{Rows: rows(row(half, 1, 2), row(half, 2))},
		{Rows: rows(row(half), row(half, 2))},
		{Rows: rows(row(half, 0, 1), row(half, 0, 2), row(half, 0, 3, 0))},
	} {
		if e := measure.Validate(m); e != api.ErrForm {
			t.Error("rows", i, "error", e)
		}
	}
	for i, p := range zeros {
		for at := range 3 {
			m := api.Measure{Rows: rows(row(half, 1), row(half, 2), row(half, 3)), Rejected: p, Cut: p}
			if e := measure.Validate(m); e != api.OK {
				t.Error("zero", i, "rejected and cut", "error", e)
			}
			m.Rows[at].Mass = p
			if e := measure.Validate(m); e != api.ErrForm {
				t.Error("zero", i, "in row", at, "error", e)
			}
		}
	}
	for i, p := range invalid {
		for j, m := range []api.Measure{
			{Rows: rows(row(p, 1), row(half, 2))},
			{Rows: rows(row(half, 1), row(p, 2))},
			{Rows: rows(row(half, 1)), Rejected: p},
			{Rows: rows(row(half, 1)), Cut: p},
			{Rejected: p},
			{Cut: p},
		} {
			if e := measure.Validate(m); e != api.ErrForm {
				t.Error("invalid", i, "measure", j, "error", e)
			}
		}
	}
}

func TestPut(t *testing.T) {
	m, e := measure.Put(api.Measure{}, []int{2, 5}, constant(2, 8))
	is(t, "the first row", m, e, "2 5 : 1/4; rejected 0; cut 0")
	m, e = measure.Put(m, []int{2, 4}, poly(term(1, 1, 1)))
	is(t, "a row before it", m, e, "2 4 : p; 2 5 : 1/4; rejected 0; cut 0")
	m, e = measure.Put(m, []int{3, -1}, poly(term(1, 1, 0, 1)))
	is(t, "a row behind it", m, e, "2 4 : p; 2 5 : 1/4; 3 -1 : q; rejected 0; cut 0")
	m, e = measure.Put(m, []int{2, 5}, poly(term(1, 1, 1)))
	is(t, "more mass", m, e, "2 4 : p; 2 5 : p + 1/4; 3 -1 : q; rejected 0; cut 0")
	m, e = measure.Put(m, []int{2, 4}, poly(term(-2, 2, 1)))
	is(t, "no more mass", m, e, "2 5 : p + 1/4; 3 -1 : q; rejected 0; cut 0")
	for _, p := range zeros {
		n, e := measure.Put(m, []int{2, 5}, p)
		is(t, "zero for a row", n, e, "2 5 : p + 1/4; 3 -1 : q; rejected 0; cut 0")
		n, e = measure.Put(m, []int{0, 0}, p)
		is(t, "zero for no row", n, e, "2 5 : p + 1/4; 3 -1 : q; rejected 0; cut 0")
		n, e = measure.Put(api.Measure{Cut: constant(1, 3)}, []int{0, 0}, p)
		is(t, "zero without rows", n, e, "rejected 0; cut 1/3")
		n, e = measure.Put(m, []int{2}, p)
		fails(t, "zero for another length", n, e, api.ErrRange)
	}
	for _, key := range [][]int{nil, {2}, {2, 5, 0}} {
		n, e := measure.Put(m, key, constant(1, 1))
		fails(t, "a mass for another length", n, e, api.ErrRange)
	}
	for _, p := range invalid {
		n, e := measure.Put(m, []int{2}, p)
		fails(t, "a mass that is not valid", n, e, api.ErrForm)
		n, e = measure.Put(api.Measure{}, nil, p)
		fails(t, "a mass that is not valid", n, e, api.ErrForm)
	}
	n, e := measure.Put(api.Measure{Rows: rows(row(nil, 1))}, []int{1, 2}, constant(1, 1))
	fails(t, "a measure that is not valid", n, e, api.ErrForm)
	n, e = measure.Put(api.Measure{Rows: rows(row(constant(1, 2)))}, nil, constant(1, 3))
	is(t, "the empty key", n, e, ": 5/6; rejected 0; cut 0")
	n, e = measure.Put(api.Measure{Rows: rows(row(constant(1, 2)))}, []int{1}, constant(1, 3))
	fails(t, "a key beside the empty one", n, e, api.ErrRange)
}

func TestAdd(t *testing.T) {
	a := api.Measure{Rows: rows(row(constant(1, 2), 1), row(poly(term(1, 1, 1)), 3), row(constant(1, 5), 6)), Rejected: constant(1, 3), Cut: constant(1, 4)}
	b := api.Measure{Rows: rows(row(constant(1, 7), 0), row(constant(1, 2), 1), row(constant(1, 9), 2), row(poly(term(-1, 1, 1)), 3)), Rejected: poly(term(1, 1, 0, 1)), Cut: constant(-1, 4)}
	m, e := measure.Add(a, b)
	is(t, "the sum", m, e, "0 : 1/7; 1 : 1; 2 : 1/9; 6 : 1/5; rejected q + 1/3; cut 0")
	m, e = measure.Add(b, a)
	is(t, "the sum", m, e, "0 : 1/7; 1 : 1; 2 : 1/9; 6 : 1/5; rejected q + 1/3; cut 0")
	none := api.Measure{Rejected: constant(1, 3)}
	m, e = measure.Add(none, none)
	is(t, "the sum without rows", m, e, "rejected 2/3; cut 0")
	wide := api.Measure{Rows: rows(row(constant(1, 2), 1, 1))}
	empty := api.Measure{Rows: rows(row(constant(1, 2)))}
	for _, x := range []api.Measure{wide, empty} {
		m, e = measure.Add(a, x)
		fails(t, "the sum for different lengths", m, e, api.ErrRange)
		m, e = measure.Add(x, a)
		fails(t, "the sum for different lengths", m, e, api.ErrRange)
		m, e = measure.Add(none, x)
		if e != api.OK || len(m.Rows) != 1 {
			t.Error("without rows on the left", m, e)
		}
		m, e = measure.Add(x, none)
		if e != api.OK || len(m.Rows) != 1 {
			t.Error("without rows on the right", m, e)
		}
		m, e = measure.Add(x, api.Measure{Rows: rows(row(nil, 1))})
		fails(t, "the sum with a measure that is not valid", m, e, api.ErrForm)
		m, e = measure.Add(api.Measure{Rows: rows(row(nil, 1))}, x)
		fails(t, "the sum of a measure that is not valid", m, e, api.ErrForm)
	}
}

func TestScale(t *testing.T) {
	m := api.Measure{Rows: rows(row(constant(1, 2), 1), row(poly(term(1, 1, 1)), 3)), Rejected: constant(1, 3), Cut: constant(1, 4)}
	n, e := measure.Scale(m, poly(term(2, 1), term(4, 2, 1)))
	is(t, "the product", n, e, "1 : p + 1; 3 : 2*p^2 + 2*p; rejected 2/3*p + 2/3; cut 1/2*p + 1/2")
	for _, p := range zeros {
		n, e = measure.Scale(m, p)
		is(t, "the product with zero", n, e, "rejected 0; cut 0")
	}
	for _, p := range invalid {
		n, e = measure.Scale(m, p)
		fails(t, "the product with what is not valid", n, e, api.ErrForm)
		n, e = measure.Scale(api.Measure{}, p)
		fails(t, "the product with what is not valid", n, e, api.ErrForm)
		n, e = measure.Scale(api.Measure{Cut: p}, nil)
		fails(t, "the product of what is not valid", n, e, api.ErrForm)
	}
}

// Exponents up to MaxExp are permitted in every mass; a product beyond it is the last error.
func TestScaleAtTheLimit(t *testing.T) {
	one, most := constant(1, 1), poly(term(1, 1, 0, api.MaxExp-5))
	for at := range 4 {
		m := api.Measure{Rows: rows(row(one, 1), row(one, 2)), Rejected: one, Cut: one}
		mass := []*api.Poly{&m.Rows[0].Mass, &m.Rows[1].Mass, &m.Rejected, &m.Cut}[at]
		*mass = most
		n, e := measure.Scale(m, poly(term(3, 1, 0, 5)))
		if e != api.OK || measure.Validate(n) != api.OK {
			t.Error("mass", at, "at the limit:", text(n), e)
		}
		n, e = measure.Scale(m, poly(term(3, 1, 0, 6), term(1, 1)))
		fails(t, "the product beyond the limit", n, e, api.ErrLimit)
		n, e = measure.Scale(m, poly(term(3, 1, 0, 6), term(-3, 1, 0, 6), term(1, 1)))
		if e != api.OK {
			t.Error("mass", at, "with terms that cancel: error", e)
		}
		n, e = measure.Scale(m, append(poly(term(3, 1, 0, 6)), invalid[0]...))
		fails(t, "a product with what is not valid", n, e, api.ErrForm)
	}
	m := api.Measure{Cut: poly(term(1, 1, 0, api.MaxExp), term(-1, 1, 0, api.MaxExp))}
	n, e := measure.Scale(m, poly(term(1, 1, 0, api.MaxExp)))
	is(t, "the product of zero", n, e, "rejected 0; cut 0")
}

func TestMasses(t *testing.T) {
	m := api.Measure{
		Rows:     rows(row(poly(term(1, 2, 1), term(1, 2, 1)), -1, 4), row(constant(1, 3), 2, 4), row(poly(term(-1, 1, 1)), 2, 5)),
		Rejected: poly(term(1, 1, 0, 1)), Cut: poly(term(-1, 1, 0, 1), term(1, 6)),
	}
	p, e := measure.Accepted(m)
	isPoly(t, "the accepted mass", p, e, "1/3")
	p, e = measure.Total(m)
	isPoly(t, "the total mass", p, e, "1/2")
	for _, x := range []struct {
		key  []int
		want string
	}{{[]int{-1, 4}, "p"}, {[]int{2, 4}, "1/3"}, {[]int{2, 5}, "-p"}, {[]int{2, 6}, "0"}, {[]int{-2, 4}, "0"}, {[]int{2}, "0"}, {nil, "0"}, {[]int{2, 4, 0}, "0"}} {
		p, e := measure.Mass(m, x.key)
		isPoly(t, "the mass of a row", p, e, x.want)
	}
	p, e = measure.Mass(api.Measure{}, nil)
	isPoly(t, "the mass without rows", p, e, "0")
	p, e = measure.Mass(api.Measure{Rows: rows(row(constant(1, 2)))}, nil)
	isPoly(t, "the mass of the empty key", p, e, "1/2")
	p, e = measure.Accepted(api.Measure{Cut: constant(1, 1)})
	isPoly(t, "the accepted mass without rows", p, e, "0")
	for i, m := range notValid() {
		for name, call := range map[string]func() (api.Poly, api.Errno){
			"Accepted": func() (api.Poly, api.Errno) { return measure.Accepted(m) },
			"Total":    func() (api.Poly, api.Errno) { return measure.Total(m) },
			"Mass":     func() (api.Poly, api.Errno) { return measure.Mass(m, []int{1}) },
		} {
			if p, e := call(); e != api.ErrForm || len(p) > 0 {
				t.Errorf("%s of measure %d that is not valid is %v, error %d", name, i, p, e)
			}
		}
	}
}

// notValid returns measures that are not valid.
func notValid() []api.Measure {
	one := constant(1, 1)
	return []api.Measure{
		{Rows: rows(row(one, 1), row(one, 1))},
		{Rows: rows(row(one, 1), row(one, 0))},
		{Rows: rows(row(one, 1), row(one, 2, 3))},
		{Rows: rows(row(one, 1), row(nil, 2))},
		{Rows: rows(row(one, 1), row(invalid[0], 2))},
		{Rows: rows(row(one, 1)), Rejected: invalid[1]},
		{Rows: rows(row(one, 1)), Cut: invalid[2]},
	}
}

func TestEqual(t *testing.T) {
	a := api.Measure{Rows: rows(row(constant(1, 2), 0), row(poly(term(1, 1, 1)), 1)), Rejected: constant(1, 3), Cut: constant(1, 4)}
	b := api.Measure{Rows: rows(row(poly(term(1, 4), term(1, 4)), 0), row(poly(term(2, 1, 1), term(-1, 1, 1)), 1)), Rejected: constant(2, 6), Cut: poly(term(0, 1, 3), term(1, 4))}
	if !measure.Equal(a, b) || !measure.Equal(b, a) || !measure.Equal(api.Measure{}, api.Measure{}) {
		t.Error("equal measures are not")
	}
	for i, m := range []api.Measure{
		{},
		{Rows: a.Rows, Cut: a.Cut},
		{Rows: a.Rows, Rejected: a.Rejected},
		{Rows: a.Rows[:1], Rejected: a.Rejected, Cut: a.Cut},
		{Rows: a.Rows[1:], Rejected: a.Rejected, Cut: a.Cut},
		{Rows: rows(a.Rows[0], row(poly(term(1, 1, 0, 1)), 1)), Rejected: a.Rejected, Cut: a.Cut},
		{Rows: rows(row(constant(1, 3), 0), a.Rows[1]), Rejected: a.Rejected, Cut: a.Cut},
		{Rows: rows(a.Rows[0], row(poly(term(1, 1, 1)), 2)), Rejected: a.Rejected, Cut: a.Cut},
		{Rows: rows(row(constant(1, 2), 0, 0), row(poly(term(1, 1, 1)), 1, 0)), Rejected: a.Rejected, Cut: a.Cut},
		{Rows: append(rows(row(constant(1, 2), -1)), a.Rows...), Rejected: a.Rejected, Cut: a.Cut},
		{Rows: a.Rows, Rejected: a.Cut, Cut: a.Rejected},
	} {
		if measure.Equal(a, m) || measure.Equal(m, b) {
			t.Error("measure", i, "is equal")
		}
	}
	for i, m := range notValid() {
		if measure.Equal(m, m) || measure.Equal(a, m) || measure.Equal(m, a) {
			t.Error("measure", i, "that is not valid is equal")
		}
	}
}
