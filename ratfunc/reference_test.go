package ratfunc_test

import (
	"math/rand/v2"
	"slices"
	"testing"

	"exactppl/api"
	"exactppl/polynomial"
	"exactppl/ratfunc"
	"exactppl/rational"
)

// term is c times the powers of the variables 0, 1 and so on with the given exponents.
func term(c int, exps ...int) api.Term {
	t := api.Term{Coef: rational.Int(c)}
	copy(t.Mono[:], exps)
	return t
}

// last is c times a power of the last variable.
func last(c, exp int) api.Term {
	return api.Term{Mono: api.Mono{api.MaxVars - 1: exp}, Coef: rational.Int(c)}
}

// poly is the sum of some terms.
func poly(terms ...api.Term) api.Poly { return terms }

func number(c int) api.Poly { return polynomial.Const(rational.Int(c)) }

// must returns a result without its error, which must be OK.
func must(p api.Poly, e api.Errno) api.Poly {
	if e != api.OK {
		panic("an error of polynomial")
	}
	return p
}

func product(l ...api.Poly) api.Poly {
	p := number(1)
	for _, q := range l {
		p = must(polynomial.Mul(p, q))
	}
	return p
}

func sum(l ...api.Poly) api.Poly { return must(polynomial.Norm(slices.Concat(l...))) }

func negated(p api.Poly) api.Poly { return must(polynomial.Scale(p, rational.Int(-1))) }

func power(p api.Poly, n int) api.Poly { return must(polynomial.Pow(p, n)) }

// over is num / den as it is.
func over(num, den api.Poly) api.Quot { return api.Quot{Num: num, Den: den} }

// whole is p / 1.
func whole(p api.Poly) api.Quot { return over(p, number(1)) }

func sameRat(a, b api.Rat) bool {
	return a.Neg == b.Neg && slices.Equal(a.Num, b.Num) && slices.Equal(a.Den, b.Den)
}

// samePoly compares all fields.
func samePoly(p, q api.Poly) bool {
	return slices.EqualFunc(p, q, func(a, b api.Term) bool { return a.Mono == b.Mono && sameRat(a.Coef, b.Coef) })
}

func sameQuot(f, g api.Quot) bool { return samePoly(f.Num, g.Num) && samePoly(f.Den, g.Den) }

// text returns f for a message.
func text(f api.Quot) string {
	names := []string{"a", "b", "c", "d", "e", "f", "g", "h"}
	num, e := polynomial.Format(f.Num, names)
	if e != api.OK {
		num = "not valid"
	}
	den, e := polynomial.Format(f.Den, names)
	if e != api.OK {
		den = "not valid"
	}
	return "(" + num + ")/(" + den + ")"
}

// fail ends the test with a message about a call.
func fail(t *testing.T, call string, got api.Quot, e api.Errno, args ...api.Quot) {
	t.Helper()
	t.Errorf("%s is %s, error %d", call, text(got), e)
	for _, f := range args {
		t.Log("argument", text(f))
	}
	t.FailNow()
}

// check reports an error, and a result that does not have the fields of want.
func check(t *testing.T, got api.Quot, e api.Errno, want api.Quot, call string, args ...api.Quot) {
	t.Helper()
	if e != api.OK || !sameQuot(got, want) {
		t.Log("wanted:", text(want))
		fail(t, call, got, e, args...)
	}
}

// checkError reports an error other than want, and results beside the error.
func checkError(t *testing.T, got api.Quot, e, want api.Errno, call string, args ...api.Quot) {
	t.Helper()
	if e != want || len(got.Num) != 0 || len(got.Den) != 0 {
		t.Log("wanted: error", want)
		fail(t, call, got, e, args...)
	}
}

// The functions of random numbers.

// randomRat returns a small number other than zero, not always in lowest terms, and in some cases with zero limbs.
func randomRat(r *rand.Rand) api.Rat {
	a := api.Rat{Neg: r.IntN(2) == 0, Num: []uint32{1 + uint32(r.IntN(9))}, Den: []uint32{1 + uint32(r.IntN(6))}}
	if r.IntN(4) == 0 {
		a.Num, a.Den = append(a.Num, 0), append(a.Den, 0, 0)
	}
	return a
}

// random returns a polynomial in the first variables with some of the exponents.
func random(r *rand.Rand, variables, terms int, exps ...int) api.Poly {
	var p api.Poly
	for range 1 + r.IntN(terms) {
		t := api.Term{Coef: randomRat(r)}
		for v := range variables {
			t.Mono[v] = exps[r.IntN(len(exps))]
		}
		p = append(p, t)
	}
	return must(polynomial.Norm(p))
}

// randomDen returns such a polynomial that is not zero.
func randomDen(r *rand.Rand, variables, terms int, exps ...int) api.Poly {
	for {
		if p := random(r, variables, terms, exps...); len(p) > 0 {
			return p
		}
	}
}

// disguise returns another representation of p: in another order, with several terms of a monomial, and with terms that are zero.
func disguise(r *rand.Rand, p api.Poly) api.Poly {
	var q api.Poly
	for _, t := range p {
		part := randomRat(r)
		q = append(q, api.Term{Mono: t.Mono, Coef: part}, api.Term{Mono: t.Mono, Coef: rational.Sub(t.Coef, part)})
		if r.IntN(3) == 0 {
			q = append(q, api.Term{Mono: api.Mono{r.IntN(api.MaxExp), 3: api.MaxExp}, Coef: api.Rat{Neg: true, Num: []uint32{5}}})
		}
	}
	r.Shuffle(len(q), func(i, j int) { q[i], q[j] = q[j], q[i] })
	return q
}

// expand returns another Quot with the function f: numerator and denominator are multiplied by p, which is not zero, and disguised.
func expand(r *rand.Rand, f api.Quot, p api.Poly) api.Quot {
	return over(disguise(r, product(f.Num, p)), disguise(r, product(f.Den, p)))
}

// A line is a polynomial in one variable modulo a prime: its coefficients, from the power 0 on, without zeros at the end.
type line []int

const prime = 1<<31 - 19 // not 2^31 - 1, for which 2^31 is 1

// raise returns a to the power n modulo the prime.
func raise(a, n int) int {
	result := 1
	for ; n > 0; n /= 2 {
		if n%2 == 1 {
			result = result * a % prime
		}
		a = a * a % prime
	}
	return result
}

// residue returns a modulo the prime, which does not divide its denominator.
func residue(a api.Rat) int {
	remainder := func(limbs []uint32) int {
		n := 0
		for _, limb := range slices.Backward(limbs) {
			n = (n<<32%prime + int(limb)) % prime
		}
		return n
	}
	num, den := remainder(a.Num), remainder(a.Den)
	if den == 0 {
		panic("no residue")
	}
	if a.Neg {
		num = prime - num
	}
	return num * raise(den, prime-2) % prime
}

// lineOf returns p with numbers in the places of all variables but v.
func lineOf(p api.Poly, v int) line {
	var l line
	for _, t := range p {
		c := residue(rational.Norm(t.Coef))
		for i, exp := range t.Mono {
			if i != v {
				c = c * raise(1234567+7654321*i+31337*v, exp) % prime
			}
		}
		l = l.plus(append(make(line, t.Mono[v]), c))
	}
	return l
}

func (l line) trim() line {
	for len(l) > 0 && l[len(l)-1] == 0 {
		l = l[:len(l)-1]
	}
	return l
}

func (l line) plus(m line) line {
	s := make(line, max(len(l), len(m)))
	copy(s, l)
	for i, c := range m {
		s[i] = (s[i] + c) % prime
	}
	return s.trim()
}

func (l line) times(m line) line {
	s := make(line, len(l)+len(m))
	for i, c := range l {
		if c != 0 {
			for j, d := range m {
				s[i+j] = (s[i+j] + c*d) % prime
			}
		}
	}
	return s.trim()
}

func (l line) minus(m line) line { return l.plus(m.times(line{prime - 1})) }

func (l line) slope() line {
	var s line
	for i, c := range l {
		if i > 0 {
			s = append(s, i*c%prime)
		}
	}
	return s.trim()
}

// divided returns the quotient and the remainder of l by m, which is not zero.
func (l line) divided(m line) (quotient, rest line) {
	rest = slices.Clone(l)
	quotient = make(line, len(l))
	unit := raise(m[len(m)-1], prime-2)
	for len(rest) >= len(m) {
		at, factor := len(rest)-len(m), rest[len(rest)-1]*unit%prime
		quotient[at] = factor
		for i, c := range m {
			rest[at+i] = (rest[at+i] + (prime-factor)*c) % prime
		}
		rest = rest.trim()
	}
	return quotient.trim(), rest
}

// A ratio is a rational function in one variable modulo the prime; den is not zero.
type ratio struct{ num, den line }

func ratioOf(f api.Quot, v int) ratio { return ratio{lineOf(f.Num, v), lineOf(f.Den, v)} }

func (a ratio) plus(b ratio) ratio {
	return ratio{a.num.times(b.den).plus(b.num.times(a.den)), a.den.times(b.den)}
}

func (a ratio) minus(b ratio) ratio {
	return ratio{a.num.times(b.den).minus(b.num.times(a.den)), a.den.times(b.den)}
}

func (a ratio) times(b ratio) ratio { return ratio{a.num.times(b.num), a.den.times(b.den)} }
func (a ratio) over(b ratio) ratio  { return ratio{a.num.times(b.den), a.den.times(b.num)} }

// reduced returns a in lowest terms.
func (a ratio) reduced() ratio {
	l, m := a.num, a.den
	for len(m) > 0 {
		_, rest := l.divided(m)
		l, m = m, rest
	}
	num, _ := a.num.divided(l)
	den, _ := a.den.divided(l)
	return ratio{num, den}
}

// checkNormal reports that f is not in normal form, except that it may not be in lowest terms.
func checkNormal(t *testing.T, f api.Quot) {
	t.Helper()
	num, e := polynomial.Norm(f.Num)
	den, d := polynomial.Norm(f.Den)
	if e != api.OK || d != api.OK || !sameQuot(f, over(num, den)) || len(den) == 0 || !sameRat(den[0].Coef, rational.Int(1)) {
		fail(t, "a normal form", f, e)
	}
}

// checkLines compares a result with what it must be as a function of each variable alone, where the others are numbers modulo the prime: the same function, with the degrees of its lowest terms. If one of them is greater than the limit, the result must be ErrLimit.
func checkLines(t *testing.T, got api.Quot, e api.Errno, want func(v int) ratio, call string, args ...api.Quot) {
	t.Helper()
	limit := false
	for v := range api.MaxVars {
		w := want(v).reduced()
		limit = limit || max(len(w.num), len(w.den)) > api.MaxExp+1
		if e != api.OK {
			continue
		}
		g := ratioOf(got, v)
		if !slices.Equal(g.num.times(w.den), w.num.times(g.den)) || len(g.num) != len(w.num) || len(g.den) != len(w.den) {
			t.Log("not the function, or not in lowest terms, in the variable", v)
			fail(t, call, got, e, args...)
		}
	}
	if limit {
		checkError(t, got, e, api.ErrLimit, call, args...)
		return
	}
	if e != api.OK {
		fail(t, call, got, e, args...)
	}
	checkNormal(t, got)
	norm, e := ratfunc.Norm(got)
	check(t, norm, e, got, "Norm of a result")
}
