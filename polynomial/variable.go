package polynomial

import (
	"slices"

	"exactppl/api"
	"exactppl/rational"
)

// normFor returns the normal form of p, or ErrRange if v is not a variable.
func normFor(p api.Poly, v int) (api.Poly, api.Errno) {
	p, e := Norm(p)
	if e == api.OK && !isVariable(v) {
		return nil, api.ErrRange
	}
	return p, e
}

// Degree returns the greatest exponent of the variable v in p, or -1 if p is zero.
func Degree(p api.Poly, v int) (int, api.Errno) {
	p, e := normFor(p, v)
	switch {
	case e != api.OK:
		return 0, e
	case len(p) == 0:
		return -1, api.OK
	}
	return degrees(p)[v], api.OK
}

// Coefs returns the coefficients of the powers of the variable v in p, from v^0 on.
func Coefs(p api.Poly, v int) ([]api.Poly, api.Errno) {
	p, e := normFor(p, v)
	if e != api.OK {
		return nil, e
	}
	return split(p, v), api.OK
}

// split returns the coefficients of the powers of v in p, from v^0 on, in the memory of the coefficients of p.
func split(p api.Poly, v int) []api.Poly {
	if len(p) == 0 {
		return nil
	}
	coefs := make([]api.Poly, degrees(p)[v]+1)
	for _, t := range p {
		exp := t.Mono[v]
		t.Mono[v] = 0
		coefs[exp] = append(coefs[exp], t)
	}
	return coefs
}

// Derivative returns the partial derivative of p by the variable v.
func Derivative(p api.Poly, v int) (api.Poly, api.Errno) {
	p, e := normFor(p, v)
	if e != api.OK {
		return nil, e
	}
	var result api.Poly // in order, as p is
	for _, t := range p {
		if exp := t.Mono[v]; exp > 0 {
			t.Mono[v]--
			t.Coef = rational.Mul(t.Coef, rational.Int(exp))
			result = append(result, t)
		}
	}
	return result, api.OK
}

// Eval returns the value of p where the variable i is x[i], and 0 if x has no such element. It returns ErrRange if x has more than MaxVars elements.
func Eval(p api.Poly, x []api.Rat) (api.Rat, api.Errno) {
	p, e := Norm(p)
	if e != api.OK {
		return api.Rat{}, e
	}
	if len(x) > api.MaxVars {
		return api.Rat{}, api.ErrRange
	}
	var point [api.MaxVars]api.Rat
	copy(point[:], x)
	for v, exp := range degrees(p) {
		if exp > 0 {
			p = insert(split(p, v), Const(point[v]))
		}
	}
	if len(p) == 0 {
		return rational.Int(0), api.OK
	}
	return p[0].Coef, api.OK
}

// Substitute returns p with q in the place of the variable v.
func Substitute(p api.Poly, v int, q api.Poly) (api.Poly, api.Errno) {
	p, q, e := normBoth(p, q)
	if e != api.OK {
		return nil, e
	}
	if !isVariable(v) {
		return nil, api.ErrRange
	}
	coefs := split(p, v)
	if surelyBeyond(coefs, q) { // before the result, which may have very many terms
		return nil, api.ErrLimit
	}
	return limited(insert(coefs, q))
}

// insert returns the sum of coefs[i] q^i, in the memory of coefs. It goes down to the next power that occurs in one step (Horner's method with gaps).
func insert(coefs []api.Poly, q api.Poly) api.Poly {
	if len(coefs) == 0 {
		return nil
	}
	reached := len(coefs) - 1
	result := coefs[reached]
	for i, c := range slices.Backward(coefs[:reached]) {
		if i > 0 && len(c) == 0 {
			continue
		}
		s := newSum(len(result) + len(c))
		s.addProducts(result, power(q, reached-i))
		s.addTerms(c, rational.Norm)
		result, reached = s.poly(), i
	}
	return result
}

// surelyBeyond reports whether an exponent greater than MaxExp is certain in the sum of coefs[i] q^i: a single i reaches it, so that nothing cancels it. Otherwise only the sum itself can tell.
func surelyBeyond(coefs []api.Poly, q api.Poly) bool {
	if len(q) == 0 {
		return false
	}
	var most api.Mono
	var alone [api.MaxVars]bool
	step := degrees(q)
	for i, c := range coefs {
		if len(c) == 0 {
			continue
		}
		for v, reach := range monoProduct(degrees(c), monoPower(step, i)) {
			switch {
			case reach > most[v]:
				most[v], alone[v] = reach, true
			case reach == most[v]:
				alone[v] = false
			}
		}
	}
	for v, exp := range most {
		if exp > api.MaxExp && alone[v] {
			return true
		}
	}
	return false
}
