package gcd

import (
	"exactppl/api"
	"exactppl/rational"
	"exactppl/wide"
)

// one returns the polynomial 1.
func one() api.Poly { return wide.Const(rational.Int(1)) }

// commonNumber returns the greatest positive number of which a and b, which are not zero, are multiples by integers.
func commonNumber(a, b api.Rat) api.Rat {
	ratio, _ := rational.Div(a, b)
	c, _ := rational.Div(b, api.Rat{Num: ratio.Den, Den: []uint32{1}})
	c.Neg = false
	return c
}

// numberContent returns the greatest number by which p, which is not zero, can be divided so that its coefficients are integers.
func numberContent(p api.Poly) api.Rat {
	c := p[0].Coef
	for _, t := range p {
		c = commonNumber(t.Coef, c)
	}
	return c
}

// divided returns p divided by the number c, which is not zero.
func divided(p api.Poly, c api.Rat) api.Poly {
	inverse, _ := rational.Div(rational.Int(1), c)
	return wide.Mul(p, wide.Const(inverse))
}

// primitive returns the multiple of p, which is not zero, by a positive number whose coefficients are coprime integers.
func primitive(p api.Poly) api.Poly { return divided(p, numberContent(p)) }

// quotient returns p divided by q, which divides it.
func quotient(p, q api.Poly) api.Poly {
	p, _ = wide.Divide(p, q)
	return p
}

// divides reports whether q, which is not zero, divides p.
func divides(q, p api.Poly) bool {
	_, e := wide.Divide(p, q)
	return e == api.OK
}
