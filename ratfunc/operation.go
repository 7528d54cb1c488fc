package ratfunc

import (
	"exactppl/api"
	"exactppl/divisor"
	"exactppl/gcd"
	"exactppl/polynomial"
	"exactppl/rational"
	"exactppl/wide"
)

// quotient returns p divided by q, which divides it.
func quotient(p, q api.Poly) api.Poly {
	p, _ = wide.Divide(p, q)
	return p
}

// plus returns f + g.
func (f function) plus(g function) (function, api.Errno) {
	common, _ := divisor.GCD(f.den, g.den)
	a, b := quotient(f.den, common), quotient(g.den, common)
	if sumBeyond(f.num, b, g.num, a, common) {
		return function{}, api.ErrLimit
	}
	sum := wide.Add(wide.Mul(f.num, b), wide.Mul(g.num, a))
	// Nothing that divides a or b divides the sum, because f and g are in lowest terms.
	cancelled := gcd.Of(sum, common)
	den, e := polynomial.Mul(a, quotient(g.den, cancelled))
	if e != api.OK {
		return function{}, e
	}
	return limited(quotient(sum, cancelled), den)
}

// sumBeyond reports whether it is certain that the numerator or the denominator of (p b + q a) / (a b common) exceeds the limit in lowest terms, where only divisors of common can be cancelled.
func sumBeyond(p, b, q, a, common api.Poly) bool {
	var num, den wide.Reach
	num.Add(p, b)
	num.Add(q, a)
	den.Add(a, b)
	return num.Beyond(wide.Degrees(common)) || den.Beyond(api.Mono{})
}

// minus returns f - g.
func (f function) minus(g function) (function, api.Errno) {
	g.num, _ = polynomial.Scale(g.num, rational.Int(-1))
	return f.plus(g)
}

// times returns f g. The denominator of g need not be monic.
func (f function) times(g function) (function, api.Errno) {
	a, _ := reduced(f.num, g.den)
	b, _ := reduced(g.num, f.den)
	num, e := polynomial.Mul(a.num, b.num)
	if e != api.OK {
		return function{}, e
	}
	den, e := polynomial.Mul(a.den, b.den)
	if e != api.OK {
		return function{}, e
	}
	return function{num, den}, api.OK
}

// over returns f / g, or ErrDivide if g is zero.
func (f function) over(g function) (function, api.Errno) {
	if len(g.num) == 0 {
		return function{}, api.ErrDivide
	}
	return f.times(function{g.den, g.num})
}

// An operation is one on two functions.
type operation int

const (
	adding operation = iota
	subtracting
	multiplying
	dividing
)

// apply returns the result of the operation for f and g.
func (o operation) apply(f, g api.Quot) (api.Quot, api.Errno) {
	operations := [...]func(f, g function) (function, api.Errno){
		adding:      function.plus,
		subtracting: function.minus,
		multiplying: function.times,
		dividing:    function.over,
	}
	a, b, e := reducedBoth(f, g)
	if e != api.OK {
		return api.Quot{}, e
	}
	return quot(operations[o](a, b))
}

// Add returns f + g.
func Add(f, g api.Quot) (api.Quot, api.Errno) { return adding.apply(f, g) }

// Sub returns f - g.
func Sub(f, g api.Quot) (api.Quot, api.Errno) { return subtracting.apply(f, g) }

// Mul returns f g.
func Mul(f, g api.Quot) (api.Quot, api.Errno) { return multiplying.apply(f, g) }

// Div returns f / g, or ErrDivide if g is zero.
func Div(f, g api.Quot) (api.Quot, api.Errno) { return dividing.apply(f, g) }
