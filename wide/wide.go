// Package wide contains polynomials whose exponents have no limit. Layers 3 to 5 and 11 compute with them, because a result within the limit can have parts beyond it.
//
// The exponents of all arguments are at least 0. The exported functions take normal forms; Norm, Add, Sub and Mul take every other representation as well. The polynomials that they return are normal forms in new memory. The functions that are not exported may return parts of their arguments.
package wide

import (
	"exactppl/api"
	"exactppl/rational"
)

// Norm returns the normal form of p.
func Norm(p api.Poly) api.Poly {
	s := newSum(len(p))
	s.addTerms(p, rational.Norm)
	return s.poly()
}

// Const returns the constant polynomial r, which need not be in normal form.
func Const(r api.Rat) api.Poly {
	if rational.Sign(r) == 0 {
		return nil
	}
	return api.Poly{{Coef: rational.Norm(r)}}
}

// addChanged returns the sum of p and of q with its coefficients replaced by what change returns.
func addChanged(p, q api.Poly, change func(api.Rat) api.Rat) api.Poly {
	s := newSum(len(p) + len(q))
	s.addTerms(p, rational.Norm)
	s.addTerms(q, change)
	return s.poly()
}

// Add returns p + q.
func Add(p, q api.Poly) api.Poly { return addChanged(p, q, rational.Norm) }

// Sub returns p - q.
func Sub(p, q api.Poly) api.Poly { return addChanged(p, q, rational.Neg) }

// Mul returns p q.
func Mul(p, q api.Poly) api.Poly {
	s := newSum(len(p) + len(q))
	s.addProducts(p, q)
	return s.poly()
}

// Degrees returns the greatest exponent of each variable in p, 0 for the zero polynomial.
func Degrees(p api.Poly) api.Mono {
	var most api.Mono
	for _, t := range p {
		for v, exp := range t.Mono {
			most[v] = max(most[v], exp)
		}
	}
	return most
}
