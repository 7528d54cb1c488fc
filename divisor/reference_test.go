package divisor_test

import (
	"math/big"
	"math/rand/v2"
	"slices"
	"testing"

	"exactppl/api"
	"exactppl/polynomial"
	"exactppl/rational"
)

// term is c times the powers of the variables 0, 1 and so on with the given exponents.
func term(c int, exps ...int) api.Term {
	t := api.Term{Coef: rational.Int(c)}
	copy(t.Mono[:], exps)
	return t
}

// last is c times a power of the last variable.
func last(c, exp int) api.Term {
	return api.Term{Mono: api.Mono{api.MaxVars - 1: exp}, Coef: rational.Int(c)}
}

// variable is c times the variable v.
func variable(c, v int) api.Term {
	t := term(c)
	t.Mono[v] = 1
	return t
}

func number(c int) api.Poly { return polynomial.Const(rational.Int(c)) }

// must returns a result without its error, which must be OK.
func must(p api.Poly, e api.Errno) api.Poly {
	if e != api.OK {
		panic("an error of polynomial")
	}
	return p
}

func product(l ...api.Poly) api.Poly {
	p := number(1)
	for _, q := range l {
		p = must(polynomial.Mul(p, q))
	}
	return p
}

func sum(l ...api.Poly) api.Poly { return must(polynomial.Norm(slices.Concat(l...))) }

func power(p api.Poly, n int) api.Poly { return must(polynomial.Pow(p, n)) }

// monic divides p by its first coefficient, without the package divisor.
func monic(p api.Poly) api.Poly {
	p = must(polynomial.Norm(p))
	if len(p) == 0 {
		return nil
	}
	unit, _ := rational.Div(rational.Int(1), p[0].Coef)
	return must(polynomial.Scale(p, unit))
}

func sameRat(a, b api.Rat) bool {
	return a.Neg == b.Neg && slices.Equal(a.Num, b.Num) && slices.Equal(a.Den, b.Den)
}

// samePoly compares all fields.
func samePoly(p, q api.Poly) bool {
	return slices.EqualFunc(p, q, func(a, b api.Term) bool { return a.Mono == b.Mono && sameRat(a.Coef, b.Coef) })
}

// text returns p for a message.
func text(p api.Poly) string {
	s, e := polynomial.Format(p, []string{"a", "b", "c", "d", "e", "f", "g", "h"})
	if e != api.OK {
		return "(not valid)"
	}
	return s
}

// check reports an error, and a result that is not the normal form of want.
func check(t *testing.T, got api.Poly, e api.Errno, want api.Poly, call string, args ...api.Poly) {
	t.Helper()
	if e != api.OK || !samePoly(got, must(polynomial.Norm(want))) {
		t.Errorf("%s is %s (error %d), not %s", call, text(got), e, text(want))
		for _, p := range args {
			t.Log("argument", text(p))
		}
		t.FailNow()
	}
}

// checkError reports an error other than want, and results beside the error.
func checkError(t *testing.T, e, want api.Errno, call string, results ...api.Poly) {
	t.Helper()
	if e != want {
		t.Errorf("%s: error %d, not %d", call, e, want)
	}
	for _, p := range results {
		if len(p) != 0 {
			t.Errorf("%s: the result %s beside an error", call, text(p))
		}
	}
}

// randomRat returns a small number other than zero, not always in lowest terms, and in some cases with zero limbs.
func randomRat(r *rand.Rand) api.Rat {
	a := api.Rat{Neg: r.IntN(2) == 0, Num: []uint32{1 + uint32(r.IntN(9))}, Den: []uint32{1 + uint32(r.IntN(6))}}
	if r.IntN(4) == 0 {
		a.Num, a.Den = append(a.Num, 0), append(a.Den, 0, 0)
	}
	return a
}

// random returns a polynomial in the first variables, which may be zero.
func random(r *rand.Rand, variables, terms, exp int) api.Poly {
	var p api.Poly
	for range terms {
		t := api.Term{Coef: randomRat(r)}
		for v := range variables {
			t.Mono[v] = r.IntN(exp + 1)
		}
		p = append(p, t)
	}
	return p
}

// disguise returns another representation of p: in another order, with several terms of a monomial, and with terms that are zero.
func disguise(r *rand.Rand, p api.Poly) api.Poly {
	var q api.Poly
	for _, t := range p {
		part := randomRat(r)
		q = append(q, api.Term{Mono: t.Mono, Coef: part}, api.Term{Mono: t.Mono, Coef: rational.Sub(t.Coef, part)})
		if r.IntN(3) == 0 {
			q = append(q, api.Term{Mono: api.Mono{r.IntN(api.MaxExp), 3: api.MaxExp}, Coef: api.Rat{Neg: true, Num: []uint32{5}}})
		}
	}
	r.Shuffle(len(q), func(i, j int) { q[i], q[j] = q[j], q[i] })
	return q
}

// invalid returns polynomials that are not valid.
func invalid() []api.Poly {
	l := []api.Poly{{term(0, -1)}, {term(1, 0, api.MaxExp+1)}, {term(1, 1), term(0, 0, 0, -5)}, {term(1, api.MaxExp+1), term(-1, api.MaxExp+1)}}
	return append(l, api.Poly{last(2, api.MaxExp+1)}, api.Poly{last(1, 2), last(1, -1)})
}

// prime is the modulus of the lines.
const prime = 1<<31 - 1

// residue returns a, which is in normal form, modulo the prime.
func residue(t *testing.T, a api.Rat) int {
	t.Helper()
	value, ok := new(big.Rat).SetString(rational.Format(a))
	inverse := new(big.Int)
	if !ok || inverse.ModInverse(value.Denom(), big.NewInt(prime)) == nil {
		t.Fatal("no residue of", a)
	}
	return int(inverse.Mul(inverse, value.Num()).Mod(inverse, big.NewInt(prime)).Int64())
}

// raise returns a to the power n modulo the prime.
func raise(a, n int) int {
	result := 1
	for ; n > 0; n /= 2 {
		if n%2 == 1 {
			result = result * a % prime
		}
		a = a * a % prime
	}
	return result
}

// A line is a polynomial in one variable modulo the prime: its coefficients, from the power 0 on, without zeros at the end.
type line []int

// lineOf returns p, which is in normal form, with numbers in the places of all variables but v.
func lineOf(t *testing.T, p api.Poly, v int) line {
	t.Helper()
	var l line
	for _, u := range p {
		c := residue(t, u.Coef)
		for i, exp := range u.Mono {
			if i != v {
				c = c * raise(10007+271*i+13*v, exp) % prime
			}
		}
		for len(l) <= u.Mono[v] {
			l = append(l, 0)
		}
		l[u.Mono[v]] = (l[u.Mono[v]] + c) % prime
	}
	return l.trim()
}

func (l line) trim() line {
	for len(l) > 0 && l[len(l)-1] == 0 {
		l = l[:len(l)-1]
	}
	return l
}

// gcdDegree returns the degree of the greatest common divisor of l and m, which are not both zero, by Euclid's algorithm. It changes them.
func (l line) gcdDegree(m line) int {
	for len(m) > 0 {
		for len(l) >= len(m) {
			factor := l[len(l)-1] * raise(m[len(m)-1], prime-2) % prime
			for i, c := range m {
				at := len(l) - len(m) + i
				l[at] = (l[at] + (prime-factor)*c) % prime
			}
			l = l.trim()
		}
		l, m = m, l
	}
	return len(l) - 1
}

// checkGreatest reports that g is not the greatest common divisor of p and q, which are in normal form and not zero. No common divisor has a greater degree in a variable than the one modulo a prime, where numbers are in the places of the other variables, if the degree of p stays; so a common divisor with all these degrees is the greatest one.
func checkGreatest(t *testing.T, g, p, q api.Poly) {
	t.Helper()
	if len(g) == 0 || !samePoly(g, monic(g)) {
		t.Fatalf("%s is not monic", text(g))
	}
	for _, whole := range []api.Poly{p, q} {
		if _, e := polynomial.Divide(whole, g); e != api.OK {
			t.Fatalf("%s does not divide %s", text(g), text(whole))
		}
	}
	for v := range api.MaxVars {
		l, m := lineOf(t, p, v), lineOf(t, q, v)
		inP, _ := polynomial.Degree(p, v)
		inG, _ := polynomial.Degree(g, v)
		if len(l) != inP+1 {
			t.Fatalf("a bad point for %s", text(p))
		}
		if common := l.gcdDegree(m); inG != common {
			t.Fatalf("the degree of %s in the variable %d is not %d; %s and %s", text(g), v, common, text(p), text(q))
		}
	}
}
