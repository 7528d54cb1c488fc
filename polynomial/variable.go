package polynomial

import (
	"exactppl/api"
	"exactppl/rational"
	"exactppl/wide"
)

// normFor returns the normal form of p, or ErrRange if v is not a variable.
func normFor(p api.Poly, v int) (api.Poly, api.Errno) {
	p, e := Norm(p)
	if e == api.OK && !isVariable(v) {
		return nil, api.ErrRange
	}
	return p, e
}

// Degree returns the greatest exponent of the variable v in p, or -1 if p is zero.
func Degree(p api.Poly, v int) (int, api.Errno) {
	p, e := normFor(p, v)
	switch {
	case e != api.OK:
		return 0, e
	case len(p) == 0:
		return -1, api.OK
	}
	return wide.Degrees(p)[v], api.OK
}

// Coefs returns the coefficients of the powers of the variable v in p, from v^0 on.
func Coefs(p api.Poly, v int) ([]api.Poly, api.Errno) {
	p, e := normFor(p, v)
	if e != api.OK {
		return nil, e
	}
	return wide.Coefs(p, v), api.OK
}

// Derivative returns the partial derivative of p by the variable v.
func Derivative(p api.Poly, v int) (api.Poly, api.Errno) {
	p, e := normFor(p, v)
	if e != api.OK {
		return nil, e
	}
	var result api.Poly // in order, as p is
	for _, t := range p {
		if exp := t.Mono[v]; exp > 0 {
			t.Mono[v]--
			t.Coef = rational.Mul(t.Coef, rational.Int(exp))
			result = append(result, t)
		}
	}
	return result, api.OK
}

// Eval returns the value of p where the variable i is x[i], and 0 if x has no such element. It returns ErrRange if x has more than MaxVars elements.
func Eval(p api.Poly, x []api.Rat) (api.Rat, api.Errno) {
	p, e := Norm(p)
	if e != api.OK {
		return api.Rat{}, e
	}
	if len(x) > api.MaxVars {
		return api.Rat{}, api.ErrRange
	}
	var point [api.MaxVars]api.Rat
	copy(point[:], x)
	for v, exp := range wide.Degrees(p) {
		if exp > 0 {
			p = wide.Replace(p, v, Const(point[v]))
		}
	}
	if len(p) == 0 {
		return rational.Int(0), api.OK
	}
	return p[0].Coef, api.OK
}

// Substitute returns p with q in the place of the variable v.
func Substitute(p api.Poly, v int, q api.Poly) (api.Poly, api.Errno) {
	p, q, e := normBoth(p, q)
	if e != api.OK {
		return nil, e
	}
	if !isVariable(v) {
		return nil, api.ErrRange
	}
	coefs, one := wide.Coefs(p, v), Const(rational.Int(1))
	if wide.Insertion(coefs, q, one).Beyond(api.Mono{}) { // before the result, which may have very many terms
		return nil, api.ErrLimit
	}
	result := wide.Insert(coefs, q, one)
	if !wide.Within(result) {
		return nil, api.ErrLimit
	}
	return result, api.OK
}
