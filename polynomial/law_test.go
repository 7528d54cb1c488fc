package polynomial_test

import (
	"math/rand/v2"
	"slices"
	"testing"

	"exactppl/api"
	"exactppl/polynomial"
	"exactppl/rational"
)

// P3.6

// ok returns a function that returns a result without an error.
func ok(t *testing.T) func(p api.Poly, e api.Errno) api.Poly {
	return func(p api.Poly, e api.Errno) api.Poly {
		t.Helper()
		if e != api.OK {
			t.Fatalf("error %d", e)
		}
		return p
	}
}

func same(t *testing.T, law string, p, q api.Poly) {
	t.Helper()
	if !samePoly(p, q) || !polynomial.Equal(p, q) {
		t.Fatalf("%s: %v is not %v", law, p, q)
	}
}

func TestRingLaws(t *testing.T) {
	r, is := rand.New(rand.NewPCG(13, 14)), ok(t)
	one := polynomial.Const(rational.Int(1))
	for range 300 {
		p, q, s := random(r, 5, 3), random(r, 5, 3), random(r, 5, 3)
		sumOf, product := is(polynomial.Add(p, q)), is(polynomial.Mul(p, q))
		same(t, "p + q = q + p", sumOf, is(polynomial.Add(q, p)))
		same(t, "p q = q p", product, is(polynomial.Mul(q, p)))
		same(t, "(p + q) + s = p + (q + s)", is(polynomial.Add(sumOf, s)), is(polynomial.Add(p, is(polynomial.Add(q, s)))))
		same(t, "(p q) s = p (q s)", is(polynomial.Mul(product, s)), is(polynomial.Mul(p, is(polynomial.Mul(q, s)))))
		same(t, "(p + q) s = p s + q s", is(polynomial.Mul(sumOf, s)), is(polynomial.Add(is(polynomial.Mul(p, s)), is(polynomial.Mul(q, s)))))
		same(t, "p + 0 = p", is(polynomial.Add(p, nil)), is(polynomial.Norm(p)))
		same(t, "p 1 = p", is(polynomial.Mul(p, one)), is(polynomial.Norm(p)))
		same(t, "p - p = 0", is(polynomial.Sub(p, p)), nil)
		same(t, "p - q = p + (-1) q", is(polynomial.Sub(p, q)), is(polynomial.Add(p, is(polynomial.Scale(q, rational.Int(-1))))))
		same(t, "p^3 = p p p", is(polynomial.Pow(p, 3)), is(polynomial.Mul(p, is(polynomial.Mul(p, p)))))
	}
}

// Two representations of one polynomial give the same normal form.
func TestNormalForms(t *testing.T) {
	r, is := rand.New(rand.NewPCG(15, 16)), ok(t)
	for range 500 {
		p := random(r, 6, 2)
		other := slices.Clone(p)
		r.Shuffle(len(other), func(i, j int) { other[i], other[j] = other[j], other[i] })
		for i, u := range other {
			half := rational.Mul(u.Coef, api.Rat{Num: []uint32{2, 0}, Den: []uint32{4}})
			other[i].Coef = half
			other = append(other, api.Term{Mono: u.Mono, Coef: half}, api.Term{Mono: api.Mono{5: i}})
		}
		same(t, "Norm", is(polynomial.Norm(p)), is(polynomial.Norm(other)))
	}
}

func TestEvalIsCompatible(t *testing.T) {
	r, is := rand.New(rand.NewPCG(17, 18)), ok(t)
	for range 300 {
		p, q := random(r, 5, 3), random(r, 5, 3)
		x, _ := point(r, r.IntN(api.MaxVars+1))
		value := func(p api.Poly) api.Rat {
			v, e := polynomial.Eval(p, x)
			if e != api.OK {
				t.Fatal("Eval", p, x, e)
			}
			return v
		}
		if !sameRat(value(is(polynomial.Add(p, q))), rational.Add(value(p), value(q))) || !sameRat(value(is(polynomial.Mul(p, q))), rational.Mul(value(p), value(q))) {
			t.Fatal("Eval", p, q, x)
		}
	}
}

func TestSubstituteIsCompatible(t *testing.T) {
	r, is := rand.New(rand.NewPCG(19, 20)), ok(t)
	for range 200 {
		p, q, s, v := random(r, 5, 3), random(r, 5, 3), random(r, 4, 2), r.IntN(api.MaxVars)
		put := func(p api.Poly) api.Poly { return is(polynomial.Substitute(p, v, s)) }
		same(t, "sums", put(is(polynomial.Add(p, q))), is(polynomial.Add(put(p), put(q))))
		same(t, "products", put(is(polynomial.Mul(p, q))), is(polynomial.Mul(put(p), put(q))))
		same(t, "the variable itself", is(polynomial.Substitute(p, v, is(polynomial.Var(v)))), is(polynomial.Norm(p)))
		same(t, "the variable alone", put(is(polynomial.Var(v))), is(polynomial.Norm(s)))
	}
}

func TestProductRule(t *testing.T) {
	r, is := rand.New(rand.NewPCG(21, 22)), ok(t)
	for range 300 {
		p, q, v := random(r, 5, 3), random(r, 5, 3), r.IntN(api.MaxVars)
		slope := func(p api.Poly) api.Poly { return is(polynomial.Derivative(p, v)) }
		left := slope(is(polynomial.Mul(p, q)))
		same(t, "the product rule", left, is(polynomial.Add(is(polynomial.Mul(slope(p), q)), is(polynomial.Mul(p, slope(q))))))
		same(t, "sums", slope(is(polynomial.Add(p, q))), is(polynomial.Add(slope(p), slope(q))))
	}
}

func TestDivideUndoesMul(t *testing.T) {
	r, is := rand.New(rand.NewPCG(23, 24)), ok(t)
	for range 300 {
		p, q := random(r, 6, 4), join(random(r, 6, 4), power(3, 2))
		same(t, "p q / q = p", is(polynomial.Divide(is(polynomial.Mul(p, q)), q)), is(polynomial.Norm(p)))
	}
}
