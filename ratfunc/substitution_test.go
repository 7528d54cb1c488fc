package ratfunc_test

import (
	"math"
	"math/rand/v2"
	"slices"
	"testing"

	"exactppl/api"
	"exactppl/polynomial"
	"exactppl/ratfunc"
)

// P5.3

// at returns p, whose coefficients are lines, at b, times the denominator of b to the power of the last index.
func at(coefs []line, b ratio) line {
	var result line
	scale := line{1}
	for _, c := range slices.Backward(coefs) {
		result = result.times(b.num).plus(c.times(scale))
		scale = scale.times(b.den)
	}
	return result
}

// coefLines returns the coefficients of the powers of v in p as lines in x, of which there are as many as for the greatest power.
func coefLines(p api.Poly, v, x, top int) []line {
	coefs, _ := polynomial.Coefs(p, v)
	lines := make([]line, top+1)
	for i, c := range coefs {
		lines[i] = lineOf(c, x)
	}
	return lines
}

// substituted returns f with g in the place of v, as a function of x.
func substituted(f api.Quot, v int, g api.Quot, x int) ratio {
	inNum, _ := polynomial.Degree(f.Num, v)
	inDen, _ := polynomial.Degree(f.Den, v)
	top := max(inNum, inDen)
	b := ratioOf(g, x)
	return ratio{at(coefLines(f.Num, v, x, top), b), at(coefLines(f.Den, v, x, top), b)}
}

// checkSubstitute compares a result with the function that it must be.
func checkSubstitute(t *testing.T, f api.Quot, v int, g api.Quot) {
	t.Helper()
	got, e := ratfunc.Substitute(f, v, g)
	if len(substituted(f, v, g, 7).den) == 0 {
		checkError(t, got, e, api.ErrDivide, "Substitute", f, g)
		return
	}
	checkLines(t, got, e, func(x int) ratio { return substituted(f, v, g, x) }, "Substitute", f, g)
}

func TestSubstitute(t *testing.T) {
	r := rand.New(rand.NewPCG(21, 22))
	for range 200 {
		f, g := randomQuot(r), randomQuot(r)
		v := r.IntN(4)
		f, _ = ratfunc.Norm(f) // because another denominator can have more zeros
		checkSubstitute(t, f, v, g)
	}
}

// Functions of which a part becomes zero: v r - q is a factor of it, where g is q / r.
func TestRoots(t *testing.T) {
	r := rand.New(rand.NewPCG(23, 24))
	for range 200 {
		// g does not contain variable 0.
		q, den := shifted(random(r, 2, 2, 0, 1, 2)), shifted(randomDen(r, 2, 2, 0, 1))
		g := over(q, den)
		root := sum(product(poly(term(1, 1)), den), negated(q))
		other, more := randomDen(r, 3, 3, 0, 1, 2), randomDen(r, 3, 3, 0, 1, 2)
		for _, f := range []api.Quot{over(product(root, other), more), over(more, product(root, other)), over(product(root, other), product(root, more)), over(other, more)} {
			f, _ = ratfunc.Norm(f)
			checkSubstitute(t, f, 0, g)
		}
	}
}

// shifted returns p with each variable in the place of the one before it.
func shifted(p api.Poly) api.Poly {
	var q api.Poly
	for _, t := range p {
		copy(t.Mono[1:], slices.Clone(t.Mono[:7]))
		t.Mono[0] = 0
		q = append(q, t)
	}
	return q
}

func TestSubstituteEdges(t *testing.T) {
	p, q, one := poly(term(1, 1)), poly(term(1, 0, 1)), number(1)
	f := over(one, sum(one, negated(p))) // 1 / (1 - p)
	for _, c := range []struct {
		f    api.Quot
		v    int
		g    api.Quot
		want api.Quot
	}{
		{whole(nil), 0, over(p, q), whole(nil)},
		{whole(number(7)), 0, over(p, q), whole(number(7))},
		{f, 1, over(p, q), over(number(-1), sum(p, number(-1)))},
		{f, 7, whole(nil), over(number(-1), sum(p, number(-1)))},
		{f, 0, whole(nil), whole(one)},
		{f, 0, whole(number(3)), whole(poly(api.Term{Coef: api.Rat{Neg: true, Num: []uint32{1}, Den: []uint32{2}}}))},
		{f, 0, over(one, q), over(q, sum(q, number(-1)))},
		{f, 0, over(one, p), over(p, sum(p, number(-1)))},
		{f, 0, whole(p), over(number(-1), sum(p, number(-1)))},
		{f, 0, f, over(sum(p, number(-1)), p)},
		{f, 0, whole(power(p, 2)), over(number(-1), sum(power(p, 2), number(-1)))},
		{whole(sum(power(p, 2), q)), 0, over(one, p), over(sum(product(power(p, 2), q), one), power(p, 2))},
		{over(power(p, 3), q), 0, over(q, p), over(power(q, 2), power(p, 3))},
		{over(p, q), 0, whole(q), whole(one)},
		{over(sum(p, negated(q)), sum(p, q)), 0, whole(q), whole(nil)},
		{over(product(p, q), p), 0, whole(nil), whole(q)}, // the denominator of the normal form counts
	} {
		got, e := ratfunc.Substitute(c.f, c.v, c.g)
		check(t, got, e, c.want, "Substitute", c.f, c.g)
	}
	for _, c := range []struct {
		f api.Quot
		v int
		g api.Quot
		e api.Errno
	}{
		{f, 0, whole(one), api.ErrDivide},
		{f, 0, over(q, q), api.ErrDivide},
		{over(q, p), 0, whole(nil), api.ErrDivide},
		{over(one, sum(product(p, q), number(-1))), 0, over(one, q), api.ErrDivide},
		{over(one, sum(product(p, q), number(-1))), 1, over(one, p), api.ErrDivide},
		{f, -1, whole(one), api.ErrRange},
		{f, api.MaxVars, whole(one), api.ErrRange},
		{whole(nil), math.MinInt, whole(nil), api.ErrRange},
		{whole(nil), math.MaxInt, whole(nil), api.ErrRange},
	} {
		got, e := ratfunc.Substitute(c.f, c.v, c.g)
		checkError(t, got, e, c.e, "Substitute", c.f, c.g)
	}
}
