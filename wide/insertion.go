package wide

import (
	"slices"

	"exactppl/api"
	"exactppl/rational"
)

// Coefs returns the coefficients of the powers of the variable v in p, from v^0 on.
func Coefs(p api.Poly, v int) []api.Poly { return split(Norm(p), v) }

// split returns what Coefs returns, in the memory of the coefficients of p.
func split(p api.Poly, v int) []api.Poly {
	if len(p) == 0 {
		return nil
	}
	coefs := make([]api.Poly, Degrees(p)[v]+1)
	for _, t := range p {
		exp := t.Mono[v]
		t.Mono[v] = 0
		coefs[exp] = append(coefs[exp], t)
	}
	return coefs
}

// Insert returns the sum of coefs[i] q^i r^(top-i), where top is the last index: a polynomial with these coefficients, at q / r, times r^top. It goes down to the next power that occurs in one step (Horner's method with gaps).
func Insert(coefs []api.Poly, q, r api.Poly) api.Poly {
	if len(coefs) == 0 {
		return nil
	}
	reached := len(coefs) - 1
	result, scale := Norm(coefs[reached]), Const(rational.Int(1))
	for i, c := range slices.Backward(coefs[:reached]) {
		if i > 0 && len(c) == 0 {
			continue
		}
		s := newSum(len(result) + len(c))
		if len(result) > 0 {
			s.addProducts(result, power(q, reached-i))
		}
		if len(c) > 0 {
			scale = Mul(scale, power(r, reached-i))
			s.addProducts(scale, c)
		}
		result, reached = s.poly(), i
	}
	return result
}

// Replace returns p with q in the place of the variable v.
func Replace(p api.Poly, v int, q api.Poly) api.Poly {
	return Insert(split(p, v), q, Const(rational.Int(1)))
}
