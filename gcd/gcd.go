// Package gcd contains greatest common divisors of polynomials whose exponents have no limit (see package wide). Layers 4 and 5 compute with them.
//
// All functions take and return normal forms, unless their comments say otherwise; the results of the exported ones are new memory.
//
// A greatest common divisor is put together from images: both polynomials are taken modulo a prime, and all variables but one are replaced by numbers. The greatest common divisor of such polynomials in one variable takes few steps, and no exponent or coefficient grows on the way.
package gcd

import "exactppl/api"

// Monic returns p divided by its first coefficient, or zero for zero.
func Monic(p api.Poly) api.Poly {
	if len(p) == 0 {
		return nil
	}
	return divided(p, p[0].Coef)
}

// Of returns the greatest common divisor of p and q: a monic polynomial, or zero if both are zero.
func Of(p, q api.Poly) api.Poly { return Monic(greatest(p, q)) }

// Int returns the greatest common divisor of two integers, which are at least 0.
func Int(a, b int) int {
	for b != 0 {
		a, b = b, a%b
	}
	return a
}

// isConstant reports whether p is a number other than zero.
func isConstant(p api.Poly) bool {
	return len(p) == 1 && p[0].Mono == api.Mono{}
}

// Coprime reports whether the greatest common divisor of p and q is 1.
func Coprime(p, q api.Poly) bool { return isConstant(greatest(p, q)) }

// Reduce returns the numerator and the monic denominator of num / den in lowest terms; den is not zero.
func Reduce(num, den api.Poly) (n, d api.Poly) {
	common := greatest(num, den)
	n, d = quotient(num, common), quotient(den, common)
	return divided(n, d[0].Coef), Monic(d)
}
