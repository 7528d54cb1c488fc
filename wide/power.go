package wide

import (
	"exactppl/api"
	"exactppl/rational"
)

// Pow returns p to the power n, which is at least 0.
func Pow(p api.Poly, n int) api.Poly { return power(Norm(p), n) }

// power returns p to the power n, in the memory of p if n is 1. By the binomial theorem, only powers of the terms behind the first one are multiplied out, which are much shorter than those of p.
func power(p api.Poly, n int) api.Poly {
	one := rational.Int(1)
	switch {
	case n == 0:
		return Const(one)
	case n == 1 || len(p) == 0:
		return p
	case len(p) == 1:
		return termPower(p[0], n, one)
	}
	first, others := p[0], p[1:]
	binomial, rest := one, Const(one) // n over k, and the others to the power k
	s := newSum(n + 1)
	s.addProducts(termPower(first, n, binomial), rest)
	for k := 1; k <= n; k++ {
		ratio, _ := rational.New(n-k+1, k)
		binomial, rest = rational.Mul(binomial, ratio), Mul(rest, others)
		s.addProducts(termPower(first, n-k, binomial), rest)
	}
	return s.poly()
}

// termPower returns r multiplied by t to the power n; r and t are not zero.
func termPower(t api.Term, n int, r api.Rat) api.Poly {
	return api.Poly{{Mono: monoPower(t.Mono, n), Coef: rational.Mul(r, numberPower(t.Coef, n))}}
}

// monoPower returns the monomial m to the power n.
func monoPower(m api.Mono, n int) api.Mono {
	for v := range m {
		m[v] *= n
	}
	return m
}

// numberPower returns r to the power n, which may be greater than what rational.Pow accepts.
func numberPower(r api.Rat, n int) api.Rat {
	low, _ := rational.Pow(r, n%api.MaxPower)
	if n < api.MaxPower {
		return low
	}
	high, _ := rational.Pow(r, api.MaxPower)
	return rational.Mul(numberPower(high, n/api.MaxPower), low)
}
