package wide_test

import (
	"math/rand/v2"
	"slices"
	"strconv"
	"testing"

	"exactppl/api"
	"exactppl/polynomial"
	"exactppl/rational"
	"exactppl/wide"
)

// term is c times the powers of the variables 0, 1 and so on with the given exponents.
func term(c int, exps ...int) api.Term {
	t := api.Term{Coef: rational.Int(c)}
	copy(t.Mono[:], exps)
	return t
}

func poly(terms ...api.Term) api.Poly { return terms }

// random returns a polynomial in two variables in normal form, with exponents that are multiples of step.
func random(r *rand.Rand, step int) api.Poly {
	var p api.Poly
	for range r.IntN(5) {
		p = append(p, term(r.IntN(9)-4, step*r.IntN(4), step*r.IntN(4)))
	}
	return wide.Norm(p)
}

// spread returns p with its exponents multiplied by step.
func spread(p api.Poly, step int) api.Poly {
	q := slices.Clone(p)
	for i := range q {
		for v := range q[i].Mono {
			q[i].Mono[v] *= step
		}
	}
	return q
}

func same(t *testing.T, call string, got, want api.Poly) {
	t.Helper()
	equal := slices.EqualFunc(got, want, func(a, b api.Term) bool {
		return a.Mono == b.Mono && a.Coef.Neg == b.Coef.Neg && slices.Equal(a.Coef.Num, b.Coef.Num) && slices.Equal(a.Coef.Den, b.Coef.Den)
	})
	if !equal {
		t.Fatalf("%s is %v, not %v", call, got, want)
	}
}

const step = 100000

// must returns a result of polynomial, where exponents are small.
func must(p api.Poly, e api.Errno) api.Poly {
	if e != api.OK {
		panic("an error of polynomial")
	}
	return p
}

// Large exponents are treated as small ones are.
func TestSpread(t *testing.T) {
	r := rand.New(rand.NewPCG(1, 2))
	for range 300 {
		p, q, s := random(r, 1), random(r, 1), random(r, 1)
		a, b, c := spread(p, step), spread(q, step), spread(s, step)
		same(t, "Norm", wide.Norm(slices.Concat(a, b, c)), spread(must(polynomial.Norm(slices.Concat(p, q, s))), step))
		same(t, "Add", wide.Add(a, b), spread(must(polynomial.Add(p, q)), step))
		same(t, "Sub", wide.Sub(a, b), spread(must(polynomial.Sub(p, q)), step))
		same(t, "Mul", wide.Mul(a, b), spread(must(polynomial.Mul(p, q)), step))
		n := r.IntN(5)
		same(t, "Pow", wide.Pow(a, n), spread(must(polynomial.Pow(p, n)), step))
		if len(q) > 0 {
			product, e := wide.Divide(wide.Mul(a, b), b)
			if e != api.OK {
				t.Fatal("Divide: error", e)
			}
			same(t, "Divide", product, a)
		}
		coefs := []api.Poly{a, nil, b, c}
		want := wide.Add(wide.Add(wide.Mul(a, wide.Pow(c, 3)), wide.Mul(wide.Mul(b, wide.Pow(b, 2)), c)), wide.Mul(c, wide.Pow(b, 3)))
		same(t, "Insert", wide.Insert(coefs, b, c), want)
		whole := spread(p, 2)
		same(t, "Replace", wide.Replace(whole, 1, b), wide.Insert(wide.Coefs(whole, 1), b, wide.Const(rational.Int(1))))
	}
}

// The term ahead has the greatest exponent of the variable, and is the first one of those that have.
func TestAhead(t *testing.T) {
	r := rand.New(rand.NewPCG(5, 6))
	for range 300 {
		p := random(r, step)
		for v := range 3 {
			if len(p) == 0 {
				break
			}
			ahead := wide.Ahead(p, v)
			if ahead.Mono[v] != wide.Degrees(p)[v] || !slices.ContainsFunc(p, func(u api.Term) bool { return u.Mono == ahead.Mono }) {
				t.Fatalf("%v is ahead in %v for the variable %d", ahead, p, v)
			}
			for _, u := range p {
				order := wide.Compare(v, ahead.Mono, u.Mono)
				if order != -wide.Compare(v, u.Mono, ahead.Mono) || (order == 0) != (u.Mono == ahead.Mono) || order < 0 {
					t.Fatalf("%v is ahead in %v for the variable %d, but compared with %v it is %d", ahead, p, v, u, order)
				}
			}
		}
	}
	for v, want := range []int{-1, 1, -1, -1} {
		if got := wide.Compare(v, api.Mono{1, 7, 2}, api.Mono{2, 6, 2}); got != want {
			t.Errorf("the order for the variable %d is %d", v, got)
		}
	}
}

func TestDivideFails(t *testing.T) {
	p := poly(term(1, step), term(1))
	for _, q := range []api.Poly{poly(term(1, step), term(2)), poly(term(1, 0, 1)), poly(term(1, step+1))} {
		if got, e := wide.Divide(p, q); e != api.ErrUnequal || len(got) > 0 {
			t.Errorf("%v divided by %v is %v, error %d", p, q, got, e)
		}
	}
}

func TestDegrees(t *testing.T) {
	for _, c := range []struct {
		p      api.Poly
		want   api.Mono
		within bool
	}{
		{nil, api.Mono{}, true},
		{poly(term(3)), api.Mono{}, true},
		{poly(term(1, 2, 7), term(1, 5)), api.Mono{5, 7}, true},
		{poly(term(1, api.MaxExp, 0, 0, 0, 0, 0, 0, api.MaxExp)), api.Mono{api.MaxExp, 7: api.MaxExp}, true},
		{poly(term(1), term(1, 0, 0, 0, 0, 0, 0, 0, api.MaxExp+1)), api.Mono{7: api.MaxExp + 1}, false},
		{poly(term(1, step), term(1)), api.Mono{step}, false},
	} {
		if got := wide.Degrees(c.p); got != c.want || wide.Within(c.p) != c.within {
			t.Errorf("Degrees of %v is %v, Within %v", c.p, got, wide.Within(c.p))
		}
	}
}

// A reach must never be less than the degrees of the sum, and where it is sure, it must be equal.
func checkReach(t *testing.T, reach wide.Reach, sum api.Poly) {
	t.Helper()
	for v, exp := range wide.Degrees(sum) {
		if exp > reach.Most[v] || exp < reach.Most[v] && reach.Sure[v] {
			t.Fatalf("the reach %v of %v", reach, sum)
		}
	}
}

func TestReach(t *testing.T) {
	r := rand.New(rand.NewPCG(3, 4))
	sure := 0
	for range 500 {
		p, q, s := random(r, 500), random(r, 500), random(r, 500)
		var reach wide.Reach
		reach.Add(p, q)
		reach.Add(s)
		checkReach(t, reach, wide.Add(wide.Mul(p, q), s))
		coefs := []api.Poly{p, s, nil, q}[:r.IntN(5)]
		if len(q) == 0 {
			continue
		}
		insertion, sum := wide.Insertion(coefs, s, q), wide.Insert(coefs, s, q)
		checkReach(t, insertion, sum)
		if insertion.Beyond(api.Mono{}) {
			sure++
			if wide.Within(sum) || !insertion.Beyond(api.Mono{0, 0, 3 * api.MaxExp}) || insertion.Beyond(insertion.Most) {
				t.Fatalf("beyond: %v of %v", insertion, sum)
			}
		}
	}
	if sure < 150 {
		t.Error("only", sure, "sums are surely beyond the limit")
	}
}

// Parts that reach the same exponent, and cancel or do not.
func TestSureReach(t *testing.T) {
	x, y := poly(term(1, 600)), poly(term(1, 600), term(1, 0, 1))
	one := poly(term(1))
	for _, c := range []struct {
		coefs []api.Poly
		q, r  api.Poly
		sure  bool
	}{
		{[]api.Poly{one, nil, one}, x, y, true},
		{[]api.Poly{one, nil, poly(term(-1))}, x, y, false},
		{[]api.Poly{one, poly(term(-2)), poly(term(2))}, x, y, true},
		{[]api.Poly{one, poly(term(-2)), one}, x, y, false},
		{[]api.Poly{poly(term(1, 0, 1)), nil, poly(term(-1))}, x, y, true},
		{[]api.Poly{one, nil, one}, nil, y, true},
		{[]api.Poly{nil, nil, one}, nil, y, false},
	} {
		reach := wide.Insertion(c.coefs, c.q, c.r)
		if reach.Sure[0] != c.sure || reach.Beyond(api.Mono{}) != c.sure {
			t.Errorf("the reach of %v with %v and %v is %v", c.coefs, c.q, c.r, reach)
		}
		checkReach(t, reach, wide.Insert(c.coefs, c.q, c.r))
	}
}

// Results are new memory.
func TestMemory(t *testing.T) {
	p := poly(term(2, 3, 1), term(5, 3), term(7))
	one := poly(term(1))
	for i, call := range []func() api.Poly{
		func() api.Poly { return wide.Norm(p) },
		func() api.Poly { return wide.Const(p[0].Coef) },
		func() api.Poly { return wide.Add(p, nil) },
		func() api.Poly { return wide.Sub(p, nil) },
		func() api.Poly { return wide.Mul(p, one) },
		func() api.Poly { return wide.Pow(p, 1) },
		func() api.Poly { return slices.Concat(wide.Coefs(p, 0)...) },
		func() api.Poly { return wide.Insert([]api.Poly{p}, p, p) },
		func() api.Poly { return wide.Insert([]api.Poly{p, nil}, p, p) },
		func() api.Poly { return wide.Insert([]api.Poly{nil, one}, p, p) },
		func() api.Poly { return wide.Replace(p, 5, one) },
	} {
		for _, u := range call() {
			u.Coef.Num[0], u.Coef.Den[0] = 99, 98
		}
		same(t, "the argument of call "+strconv.Itoa(i), p, poly(term(2, 3, 1), term(5, 3), term(7)))
	}
}
