package ratfunc_test

import (
	"math/rand/v2"
	"testing"

	"exactppl/api"
	"exactppl/polynomial"
	"exactppl/ratfunc"
)

// The limit of exponents: it counts for the normal form of the result alone.

func TestProductLimit(t *testing.T) {
	high, q := poly(term(1, 1000)), poly(term(1, 0, 1))
	plus := poly(term(1, 1000), term(1))
	for _, c := range []struct {
		f, g, want api.Quot
		e          api.Errno
	}{
		{over(high, q), over(high, high), over(high, q), api.OK},
		{over(high, q), over(q, high), whole(number(1)), api.OK},
		{over(plus, q), over(plus, high), api.Quot{}, api.ErrLimit},
		{over(plus, q), over(product(q, high), plus), whole(high), api.OK},
		{over(plus, q), over(power(poly(term(1, 1)), 24), high), over(plus, product(q, poly(term(1, 976)))), api.OK},
		{whole(plus), whole(poly(term(1, 24), term(1))), whole(poly(term(1, 1024), term(1, 1000), term(1, 24), term(1))), api.OK},
		{whole(plus), whole(poly(term(1, 25), term(1))), api.Quot{}, api.ErrLimit},
		{over(q, plus), over(q, poly(term(1, 25), term(1))), api.Quot{}, api.ErrLimit},
		{whole(poly(last(2, 1000))), whole(poly(last(3, 25))), api.Quot{}, api.ErrLimit},
		{whole(nil), over(q, high), whole(nil), api.OK},
	} {
		got, e := ratfunc.Mul(c.f, c.g)
		if c.e != api.OK {
			checkError(t, got, e, c.e, "Mul", c.f, c.g)
		} else {
			check(t, got, e, c.want, "Mul", c.f, c.g)
		}
		if len(c.g.Num) == 0 {
			continue
		}
		inverse := over(c.g.Den, c.g.Num)
		divided, e := ratfunc.Div(c.f, inverse)
		if e != c.e || !sameQuot(divided, got) {
			fail(t, "Div", divided, e, c.f, inverse)
		}
	}
}

// Sums whose numerators are beyond the limit before a factor is cancelled.
func TestSumLimit(t *testing.T) {
	q := poly(term(1, 0, 1))
	a, b := poly(term(1, 500), term(2)), poly(term(1, 500), term(1, 0, 3))
	g := poly(term(1, 100), term(1, 0, 1))
	s, u := poly(term(1, 500)), poly(term(1, 7), term(3, 0, 2))
	// (a + g s) / (a g) + (g u - b) / (b g) is (s b + u a) / (a b).
	first, second := over(sum(a, product(g, s)), product(a, g)), over(sum(product(g, u), negated(b)), product(b, g))
	got, e := ratfunc.Add(first, second)
	check(t, got, e, over(sum(product(s, b), product(u, a)), product(a, b)), "Add", first, second)
	got, e = ratfunc.Sub(first, over(negated(second.Num), second.Den))
	check(t, got, e, over(sum(product(s, b), product(u, a)), product(a, b)), "Sub", first, second)
	s = poly(term(1, 500), term(1, 524))
	first.Num = sum(a, product(g, s))
	got, e = ratfunc.Add(first, second)
	check(t, got, e, over(sum(product(s, b), product(u, a)), product(a, b)), "Add", first, second)
	s = poly(term(1, 500), term(1, 525))
	first.Num = sum(a, product(g, s))
	got, e = ratfunc.Add(first, second)
	checkError(t, got, e, api.ErrLimit, "Add", first, second)

	high := poly(term(1, 1000))
	for _, c := range []struct {
		f, g, want api.Quot
		e          api.Errno
	}{
		{over(high, q), over(number(1), product(high, q)), api.Quot{}, api.ErrLimit},
		{over(high, sum(high, q)), over(q, sum(high, q)), whole(number(1)), api.OK},
		{over(number(1), sum(high, number(1))), over(number(1), sum(high, number(2))), api.Quot{}, api.ErrLimit},
		{over(high, sum(high, number(1))), over(number(-1), sum(high, number(-1))), api.Quot{}, api.ErrLimit},
		{whole(poly(term(1, api.MaxExp))), whole(poly(term(-1, api.MaxExp), term(3, 1))), whole(poly(term(3, 1))), api.OK},
		{over(high, poly(term(1, 1), term(-1))), over(number(-1), poly(term(1, 1), term(-1))), whole(geometric(1000)), api.OK},
		// The parts of these numerators have the exponent 1100.
		{over(poly(term(1, 600)), a), over(poly(term(-1, 600)), b), over(product(poly(term(1, 600)), sum(b, negated(a))), product(a, b)), api.OK},
		{over(poly(term(1, 600)), a), over(poly(term(1, 600)), b), api.Quot{}, api.ErrLimit},
		{over(poly(term(1, 600)), a), over(poly(term(-1, 600), term(1, 525)), b), api.Quot{}, api.ErrLimit},
		{over(poly(term(1, 600)), a), over(poly(term(-1, 600), term(1, 524)), b), over(sum(product(poly(term(1, 600)), sum(b, negated(a))), product(poly(term(1, 524)), a)), product(a, b)), api.OK},
	} {
		got, e := ratfunc.Add(c.f, c.g)
		if c.e != api.OK {
			checkError(t, got, e, c.e, "Add", c.f, c.g)
			continue
		}
		check(t, got, e, c.want, "Add", c.f, c.g)
	}
}

// geometric returns the sum of the first n powers of variable 0.
func geometric(n int) api.Poly {
	var p api.Poly
	for i := range n {
		p = append(p, term(1, n-1-i))
	}
	return p
}

func TestDerivativeLimit(t *testing.T) {
	p := poly(term(1, 1))
	content := poly(term(1, 0, 350), term(1))
	// With c = q^350 + 1 the derivative of (c p q^350 + 1) / (c (c p^2 + 1)) by p is (-c p^2 q^350 - 2 p + q^350) / (c p^2 + 1)^2: the factor c is cancelled.
	square := sum(product(content, power(p, 2)), number(1))
	f := over(sum(product(content, p, poly(term(1, 0, 350))), number(1)), product(content, square))
	want := over(sum(negated(product(content, power(p, 2), poly(term(1, 0, 350)))), poly(term(-2, 1), term(1, 0, 350))), power(square, 2))
	got, e := ratfunc.Derivative(f, 0)
	check(t, got, e, want, "Derivative", f)
	// (c p + 2) / (c^2 (c p + 1)) becomes -1 / (c (c p + 1)^2), with a denominator beyond the limit before c is cancelled.
	content = poly(term(1, 0, 300), term(1))
	line := sum(product(content, p), number(1))
	f = over(sum(line, number(1)), product(content, content, line))
	got, e = ratfunc.Derivative(f, 0)
	check(t, got, e, over(number(-1), product(content, line, line)), "Derivative", f)

	for _, c := range []struct {
		f api.Quot
		v int
		e api.Errno
	}{
		{over(number(1), poly(term(1, 512), term(1))), 0, api.OK},
		{over(number(1), poly(term(1, 513), term(1))), 0, api.ErrLimit},
		{over(number(1), poly(term(1, 1, 513), term(1))), 0, api.ErrLimit},
		{over(number(1), poly(term(1, 1, 512), term(1))), 0, api.OK},
		{over(poly(term(1, 0, 600)), poly(term(1, 1), term(1, 0, 500))), 0, api.OK},
		{over(poly(term(1, 1, 600)), poly(term(1, 1), term(1, 0, 500))), 0, api.ErrLimit},
		{over(number(1), poly(term(1, api.MaxExp))), 0, api.ErrLimit},
		{over(poly(term(1, 0, 2)), poly(last(1, api.MaxExp))), 1, api.OK},
		{over(poly(term(1, 0, 2)), poly(last(1, api.MaxExp))), 7, api.ErrLimit},
	} {
		num, _ := polynomial.Derivative(c.f.Num, c.v)
		den, _ := polynomial.Derivative(c.f.Den, c.v)
		got, e := ratfunc.Derivative(c.f, c.v)
		if e != c.e {
			fail(t, "Derivative", got, e, c.f)
		}
		checkLines(t, got, e, func(x int) ratio {
			a, b := ratioOf(c.f, x), ratioOf(over(num, den), x)
			return ratio{b.num.times(a.den).minus(a.num.times(b.den)), a.den.times(a.den)}
		}, "Derivative", c.f)
	}
}

func TestSubstituteLimit(t *testing.T) {
	one, q := number(1), poly(term(1, 0, 1))
	high := poly(term(1, 1000))
	many := poly(term(1, 2), term(1, 0, 1), term(1, 0, 0, 1), term(1, 0, 0, 0, 1), term(1, 0, 0, 0, 0, 1), term(3, 0, 0, 0, 0, 0, 1), last(2, 1), term(5))
	fraction := over(poly(term(1, 2)), many) // a power has more terms than any memory
	unity := poly(term(1, api.MaxExp), term(1))
	root := poly(term(1, 1, 1000), term(-1)) // zero where variable 0 is q^-1000
	inverse := over(one, poly(term(1, 0, 1000)))
	for _, c := range []struct {
		f, g, want api.Quot
		e          api.Errno
	}{
		{over(high, poly(term(1, 0, 1000))), whole(poly(term(1, 1, 2))), whole(poly(term(1, 1000, 1000))), api.OK},
		{over(high, poly(term(1, 0, 1000))), over(poly(term(1, 0, 2)), poly(term(1, 1))), over(poly(term(1, 0, 1000)), high), api.OK},
		{over(poly(term(1, 40)), power(sum(q, one), 40)), whole(power(sum(q, one), 39)), api.Quot{}, api.ErrLimit},
		{over(poly(term(1, 40)), power(sum(q, one), 60)), whole(power(sum(q, one), 26)), whole(pow(sum(q, one), 980)), api.OK},
		{over(poly(term(1, 40)), power(poly(term(1, 0, 20), term(1)), 40)), whole(power(poly(term(1, 0, 20), term(1)), 2)), whole(power(poly(term(1, 0, 20), term(1)), 40)), api.OK},
		{over(one, poly(term(1, 600), term(1))), whole(poly(term(1, 2))), api.Quot{}, api.ErrLimit},
		{over(one, poly(term(1, 512), term(1))), whole(poly(term(1, 2))), over(one, poly(term(1, 1024), term(1))), api.OK},
		{over(one, product(root, poly(term(1, 1), term(-2)))), inverse, api.Quot{}, api.ErrDivide},
		{over(product(root, poly(term(1, 1), term(-2))), unity), inverse, whole(nil), api.OK},
		{over(one, poly(term(1, 3), term(1))), inverse, api.Quot{}, api.ErrLimit},
		{over(poly(term(1, 1), term(-1, 0, 1000)), poly(term(1, 3), term(1))), whole(poly(term(1, 0, 1000))), whole(nil), api.OK},
		{over(poly(term(1, 3), term(1)), poly(term(1, 1), term(-1, 0, 1000))), whole(poly(term(1, 0, 1000))), api.Quot{}, api.ErrDivide},
		{over(poly(term(1, api.MaxExp), term(1)), poly(term(1, api.MaxExp), term(2))), whole(many), api.Quot{}, api.ErrLimit},
		{over(poly(term(1, 900), term(1)), poly(term(1, 900), term(2))), fraction, api.Quot{}, api.ErrLimit},
		{over(poly(term(1, 900), term(1, 0, 1)), poly(term(1, 900), term(2, 0, 1))), fraction, api.Quot{}, api.ErrLimit},
		{over(unity, poly(term(1, api.MaxExp), term(2))), whole(poly(term(1, api.MaxExp), term(1, 1), term(1))), api.Quot{}, api.ErrLimit},
		{over(poly(term(1, 2)), poly(term(1, 2), term(1, 0, 1000), term(1))), whole(poly(term(1, 0, 600))), api.Quot{}, api.ErrLimit},
		{over(one, poly(term(1, 2), term(1, 0, 1000), term(1))), whole(poly(term(1, 0, 600))), api.Quot{}, api.ErrLimit},
		{over(poly(term(1, 2), term(1, 0, 1000), term(1)), poly(term(1, 1), term(1, 0, 1))), whole(poly(term(1, 0, 600))), api.Quot{}, api.ErrLimit},
		{over(poly(term(1, 1000), term(1, 0, 999)), poly(term(1, 1000), term(-1, 0, 1000), term(5))), whole(poly(term(1, 0, 1000), term(1, 0, 1))), api.Quot{}, api.ErrLimit},
		{over(poly(term(1, 400), term(1, 200)), poly(term(1, 200), term(-1, 0, 600))), whole(poly(term(1, 0, 3), term(1))), api.Quot{}, api.ErrLimit},
		{over(poly(term(1, 400), term(-1, 0, 800)), poly(term(1, 200), term(1, 0, 400))), whole(poly(term(1, 0, 2), term(1))), whole(sum(pow(poly(term(1, 0, 2), term(1)), 200), poly(term(-1, 0, 400)))), api.OK},
		{over(poly(term(1, 1)), poly(term(1, 2), term(1, 0, 1000), term(1))), whole(poly(term(1, 0, 600))), api.Quot{}, api.ErrLimit},
		{over(poly(term(1, 3)), poly(term(1, 2), term(1, 1), term(-1, 0, 600))), whole(poly(term(1, 0, 600))), whole(poly(term(1, 0, 600))), api.OK},
		{over(poly(term(1, 2), term(1, 1), term(-1, 0, 600)), poly(term(1, 3))), whole(poly(term(1, 0, 600))), over(one, poly(term(1, 0, 600))), api.OK},
		{over(poly(term(1, 2)), poly(term(1, 1), term(1, 0, 1000))), whole(poly(term(1, 0, 600))), over(poly(term(1, 0, 600)), poly(term(1, 0, 400), term(1))), api.OK},
		{whole(poly(term(1, 2), term(-1, 1, 900))), whole(poly(term(1, 0, 900), term(1))), whole(poly(term(1, 0, 900), term(1))), api.OK},
	} {
		got, e := ratfunc.Substitute(c.f, 0, c.g)
		if c.e != api.OK {
			checkError(t, got, e, c.e, "Substitute", c.f, c.g)
			continue
		}
		check(t, got, e, c.want, "Substitute", c.f, c.g)
	}
}

// pow returns p to a power that may be greater than MaxPower.
func pow(p api.Poly, n int) api.Poly {
	if n <= api.MaxPower {
		return power(p, n)
	}
	return product(power(p, api.MaxPower), pow(p, n-api.MaxPower))
}

// Random functions with large exponents, so that results are within the limit and beyond it.
func TestLargeExponents(t *testing.T) {
	r := rand.New(rand.NewPCG(25, 26))
	exps := []int{0, 0, 1, 2, 300, 400, 700}
	for range 60 {
		f := over(random(r, 2, 2, exps...), randomDen(r, 2, 2, exps...))
		g := over(random(r, 2, 2, exps...), randomDen(r, 2, 2, exps...))
		if r.IntN(2) == 0 {
			both := poly(term(1, 300), term(1, 0, 2))
			f.Den, g.Den = product(randomDen(r, 2, 2, 0, 1, 300), both), product(randomDen(r, 2, 2, 0, 1, 300), both)
		}
		got, e := ratfunc.Add(f, g)
		checkLines(t, got, e, func(v int) ratio { return ratioOf(f, v).plus(ratioOf(g, v)) }, "Add", f, g)
		got, e = ratfunc.Sub(f, g)
		checkLines(t, got, e, func(v int) ratio { return ratioOf(f, v).minus(ratioOf(g, v)) }, "Sub", f, g)
		got, e = ratfunc.Mul(f, g)
		checkLines(t, got, e, func(v int) ratio { return ratioOf(f, v).times(ratioOf(g, v)) }, "Mul", f, g)
		if len(g.Num) > 0 {
			got, e = ratfunc.Div(f, g)
			checkLines(t, got, e, func(v int) ratio { return ratioOf(f, v).over(ratioOf(g, v)) }, "Div", f, g)
		}
		small := randomQuot(r)
		small, _ = ratfunc.Norm(small)
		checkSubstitute(t, small, r.IntN(3), g)
	}
}
