package divisor_test

import (
	"math/rand/v2"
	"testing"

	"exactppl/api"
	"exactppl/divisor"
	"exactppl/polynomial"
)

// P4.3

// three returns three polynomials of which each two often have common divisors.
func three(r *rand.Rand) (p, q, s api.Poly) {
	a, b, c := random(r, 3, 3, 2), random(r, 3, 2, 2), random(r, 2, 3, 3)
	p, q, s = product(a, b), product(b, c), product(c, a)
	switch r.IntN(8) {
	case 0:
		p = nil
	case 1:
		s = number(r.IntN(5))
	case 2:
		q = product(p, q)
	}
	return p, q, s
}

// ok returns a function that returns a result, or ends the test at an error.
func ok(t *testing.T) func(p api.Poly, e api.Errno) api.Poly {
	return func(p api.Poly, e api.Errno) api.Poly {
		t.Helper()
		if e != api.OK {
			t.Fatal("error", e)
		}
		return p
	}
}

// same reports two polynomials that differ, although a law says that they are the same normal form.
func same(t *testing.T, law string, p, q api.Poly) {
	t.Helper()
	if !samePoly(p, q) {
		t.Fatalf("%s: %s is not %s", law, text(p), text(q))
	}
}

func TestLaws(t *testing.T) {
	r, is := rand.New(rand.NewPCG(9, 10)), ok(t)
	for range 300 {
		p, q, s := three(r)
		gcd := is(divisor.GCD(p, q))
		same(t, "GCD(p, q) = GCD(q, p)", gcd, is(divisor.GCD(q, p)))
		same(t, "GCD(GCD(p, q), s) = GCD(p, GCD(q, s))", is(divisor.GCD(gcd, s)), is(divisor.GCD(p, is(divisor.GCD(q, s)))))
		same(t, "GCD(p s, q s) = GCD(p, q) Monic(s)", is(divisor.GCD(product(p, s), product(q, s))), product(gcd, is(divisor.Monic(s))))
		lcm := is(divisor.LCM(p, q))
		same(t, "LCM(p, q) = LCM(q, p)", lcm, is(divisor.LCM(q, p)))
		same(t, "LCM(LCM(p, q), s) = LCM(p, LCM(q, s))", is(divisor.LCM(lcm, s)), is(divisor.LCM(p, is(divisor.LCM(q, s)))))
		same(t, "GCD(p, q) LCM(p, q) = Monic(p q)", product(gcd, lcm), is(divisor.Monic(product(p, q))))
	}
}

// Fractions that are equal by cross multiplication have the same lowest terms.
func TestReduceOfEqualFractions(t *testing.T) {
	r := rand.New(rand.NewPCG(11, 12))
	for range 300 {
		num, den, s := three(r)
		if len(den) == 0 || len(s) == 0 {
			continue
		}
		n, d, e := divisor.Reduce(num, den)
		otherN, otherD, otherE := divisor.Reduce(disguise(r, product(num, s)), disguise(r, product(den, s)))
		if e != api.OK || otherE != api.OK {
			t.Fatal("Reduce", e, otherE)
		}
		same(t, "the numerators", n, otherN)
		same(t, "the denominators", d, otherD)
		same(t, "n den = num d", product(n, den), product(num, d))
		same(t, "the denominator is monic", d, monic(d))
		if coprime, e := divisor.Coprime(n, d); e != api.OK || !coprime {
			t.Fatalf("%s and %s are not coprime", text(n), text(d))
		}
		again, one, e := divisor.Reduce(n, d)
		if e != api.OK || !samePoly(again, n) || !samePoly(one, d) {
			t.Fatalf("%s / %s is not in lowest terms: %s / %s", text(n), text(d), text(again), text(one))
		}
	}
}

// Every common divisor divides the greatest one, and every common multiple is a multiple of the least one.
func TestUniversal(t *testing.T) {
	r, is := rand.New(rand.NewPCG(13, 14)), ok(t)
	for range 100 {
		x := randomPair(r)
		gcd, lcm := is(divisor.GCD(x.p, x.q)), is(divisor.LCM(x.p, x.q))
		for _, f := range factors() {
			_, inP := polynomial.Divide(x.p, f)
			_, inQ := polynomial.Divide(x.q, f)
			_, inGCD := polynomial.Divide(gcd, f)
			_, inLCM := polynomial.Divide(lcm, f)
			if (inGCD == api.OK) != (inP == api.OK && inQ == api.OK) || (inLCM == api.OK) != (inP == api.OK || inQ == api.OK) {
				t.Fatalf("the factor %s of %s and %s, their GCD %s and LCM %s", text(f), text(x.p), text(x.q), text(gcd), text(lcm))
			}
		}
	}
}
