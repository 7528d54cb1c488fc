package ratfunc

import (
	"exactppl/api"
	"exactppl/divisor"
	"exactppl/gcd"
	"exactppl/polynomial"
	"exactppl/wide"
)

// isVariable reports whether v is from 0 to MaxVars-1.
func isVariable(v int) bool { return v >= 0 && v < api.MaxVars }

// Derivative returns the partial derivative of f by the variable v.
func Derivative(f api.Quot, v int) (api.Quot, api.Errno) {
	a, e := reduced(f.Num, f.Den)
	switch {
	case e != api.OK:
		return api.Quot{}, e
	case !isVariable(v):
		return api.Quot{}, api.ErrRange
	}
	return quot(a.derivative(v))
}

// derivative returns the partial derivative by v. With den = a common and its derivative b common it is (num' a - num b) / (den a). A divisor of den with the variable v does not divide this numerator, and one without v does not divide a; so what the numerator has in common with den is all that can be cancelled.
func (f function) derivative(v int) (function, api.Errno) {
	numSlope, _ := polynomial.Derivative(f.num, v)
	denSlope, _ := polynomial.Derivative(f.den, v)
	common, _ := divisor.GCD(f.den, denSlope)
	a, b := quotient(f.den, common), quotient(denSlope, common)
	if wide.Degrees(f.den)[v]+wide.Degrees(a)[v] > api.MaxExp {
		return function{}, api.ErrLimit
	}
	num := wide.Sub(wide.Mul(numSlope, a), wide.Mul(f.num, b))
	cancelled := gcd.Of(num, f.den)
	den, e := polynomial.Mul(quotient(f.den, cancelled), a)
	if e != api.OK {
		return function{}, e
	}
	return limited(quotient(num, cancelled), den)
}
