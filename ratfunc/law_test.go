package ratfunc_test

import (
	"math/rand/v2"
	"testing"

	"exactppl/api"
	"exactppl/ratfunc"
	"exactppl/rational"
)

// P5.5

// ok returns a function that returns a result, or ends the test at an error.
func ok(t *testing.T) func(f api.Quot, e api.Errno) api.Quot {
	return func(f api.Quot, e api.Errno) api.Quot {
		t.Helper()
		if e != api.OK {
			t.Fatal("error", e)
		}
		return f
	}
}

// same reports two functions that differ, although a law says that they are the same normal form.
func same(t *testing.T, law string, f, g api.Quot) {
	t.Helper()
	if !sameQuot(f, g) || !ratfunc.Equal(f, g) {
		t.Fatalf("%s: %s is not %s", law, text(f), text(g))
	}
}

func TestFieldLaws(t *testing.T) {
	r, is := rand.New(rand.NewPCG(31, 32)), ok(t)
	zero, one := whole(nil), whole(number(1))
	for range 80 {
		f, g, h := randomQuot(r), randomQuot(r), randomQuot(r)
		sumOf, times := is(ratfunc.Add(f, g)), is(ratfunc.Mul(f, g))
		same(t, "f + g = g + f", sumOf, is(ratfunc.Add(g, f)))
		same(t, "f g = g f", times, is(ratfunc.Mul(g, f)))
		same(t, "(f + g) + h = f + (g + h)", is(ratfunc.Add(sumOf, h)), is(ratfunc.Add(f, is(ratfunc.Add(g, h)))))
		same(t, "(f g) h = f (g h)", is(ratfunc.Mul(times, h)), is(ratfunc.Mul(f, is(ratfunc.Mul(g, h)))))
		same(t, "(f + g) h = f h + g h", is(ratfunc.Mul(sumOf, h)), is(ratfunc.Add(is(ratfunc.Mul(f, h)), is(ratfunc.Mul(g, h)))))
		same(t, "f + 0 = f", is(ratfunc.Add(f, zero)), is(ratfunc.Norm(f)))
		same(t, "f 1 = f", is(ratfunc.Mul(f, one)), is(ratfunc.Norm(f)))
		same(t, "f - g = f + (-1) g", is(ratfunc.Sub(f, g)), is(ratfunc.Add(f, is(ratfunc.Mul(whole(number(-1)), g)))))
		same(t, "f - f = 0", is(ratfunc.Sub(f, f)), zero)
		if len(g.Num) > 0 {
			same(t, "g / g = 1", is(ratfunc.Div(g, g)), one)
			same(t, "(f g) / g = f", is(ratfunc.Div(times, g)), is(ratfunc.Norm(f)))
			same(t, "(f / g) g = f", is(ratfunc.Mul(is(ratfunc.Div(f, g)), g)), is(ratfunc.Norm(f)))
		}
	}
}

func TestDerivativeLaws(t *testing.T) {
	r, is := rand.New(rand.NewPCG(33, 34)), ok(t)
	for range 60 {
		f, g, v := randomQuot(r), randomQuot(r), r.IntN(3)
		slopeF, slopeG := is(ratfunc.Derivative(f, v)), is(ratfunc.Derivative(g, v))
		same(t, "(f + g)' = f' + g'", is(ratfunc.Derivative(is(ratfunc.Add(f, g)), v)), is(ratfunc.Add(slopeF, slopeG)))
		left, right := is(ratfunc.Mul(slopeF, g)), is(ratfunc.Mul(f, slopeG))
		same(t, "(f g)' = f' g + f g'", is(ratfunc.Derivative(is(ratfunc.Mul(f, g)), v)), is(ratfunc.Add(left, right)))
		if len(g.Num) > 0 {
			over := is(ratfunc.Div(is(ratfunc.Sub(left, right)), is(ratfunc.Mul(g, g))))
			same(t, "(f / g)' = (f' g - f g') / g^2", is(ratfunc.Derivative(is(ratfunc.Div(f, g)), v)), over)
		}
		other := r.IntN(3)
		same(t, "the order of two derivatives", is(ratfunc.Derivative(slopeF, other)), is(ratfunc.Derivative(is(ratfunc.Derivative(f, other)), v)))
	}
}

// values returns the values of f and g at x, and whether both have one.
func values(f, g api.Quot, x []api.Rat) (a, b api.Rat, defined bool) {
	a, e := ratfunc.Eval(f, x)
	b, d := ratfunc.Eval(g, x)
	return a, b, e == api.OK && d == api.OK
}

func TestEvalLaws(t *testing.T) {
	r, is := rand.New(rand.NewPCG(35, 36)), ok(t)
	checkValue := func(law string, f api.Quot, x []api.Rat, want api.Rat) {
		t.Helper()
		if got, e := ratfunc.Eval(f, x); e != api.OK || !sameRat(got, want) {
			t.Fatalf("%s: the value of %s at %v is %v, error %d, not %v", law, text(f), x, got, e, want)
		}
	}
	count := 0
	for range 200 {
		f, g := randomQuot(r), randomQuot(r)
		x := []api.Rat{randomRat(r), randomRat(r), randomRat(r)}
		a, b, defined := values(f, g, x)
		if !defined {
			continue
		}
		count++
		checkValue("f + g", is(ratfunc.Add(f, g)), x, rational.Add(a, b))
		checkValue("f - g", is(ratfunc.Sub(f, g)), x, rational.Sub(a, b))
		checkValue("f g", is(ratfunc.Mul(f, g)), x, rational.Mul(a, b))
		if rational.Sign(b) != 0 {
			ratio, _ := rational.Div(a, b)
			checkValue("f / g", is(ratfunc.Div(f, g)), x, ratio)
		}
		// Substitute, at the point where the variable has the value of g.
		y := []api.Rat{x[0], b, x[2]}
		value, e := ratfunc.Eval(f, y)
		inserted, d := ratfunc.Substitute(f, 1, g)
		if e == api.OK && d == api.OK {
			checkValue("f with g", inserted, x, value)
		}
	}
	if count < 100 {
		t.Error("only", count, "points have values")
	}
}

func TestSubstituteLaws(t *testing.T) {
	r, is := rand.New(rand.NewPCG(37, 38)), ok(t)
	count := 0
	for range 80 {
		f, g, v := randomQuot(r), randomQuot(r), r.IntN(3)
		alone := api.Term{Mono: api.Mono{6: 2}, Coef: rational.Int(1)} // of a variable that only h contains
		h := over(product(random(r, 3, 2, 0, 1), poly(alone, term(-3))), randomDen(r, 2, 2, 0, 1))
		inF, e := ratfunc.Substitute(f, v, h)
		inG, d := ratfunc.Substitute(g, v, h)
		if e != api.OK || d != api.OK {
			continue
		}
		count++
		same(t, "Substitute of a sum", is(ratfunc.Substitute(is(ratfunc.Add(f, g)), v, h)), is(ratfunc.Add(inF, inG)))
		same(t, "Substitute of a product", is(ratfunc.Substitute(is(ratfunc.Mul(f, g)), v, h)), is(ratfunc.Mul(inF, inG)))
		variable := whole(api.Poly{{Mono: api.Mono{}, Coef: rational.Int(1)}})
		variable.Num[0].Mono[v] = 1
		same(t, "Substitute of the variable itself", is(ratfunc.Substitute(f, v, variable)), is(ratfunc.Norm(f)))
		same(t, "Substitute in the variable", is(ratfunc.Substitute(variable, v, h)), is(ratfunc.Norm(h)))
		if outer, e := ratfunc.Substitute(is(ratfunc.Derivative(f, v)), v, h); e == api.OK {
			same(t, "the chain rule", is(ratfunc.Derivative(inF, 6)), is(ratfunc.Mul(outer, is(ratfunc.Derivative(h, 6)))))
		}
	}
	if count < 60 {
		t.Error("only", count, "substitutions have results")
	}
}
