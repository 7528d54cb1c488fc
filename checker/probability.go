package checker

import (
	"slices"

	"exactppl/api"
	"exactppl/polynomial"
	"exactppl/rational"
)

// Probability returns the polynomial that e denotes, where params[i] is the name of the variable i, or the first error.
func Probability(params []string, e api.Expr) (api.Poly, api.Errno) {
	var p api.Poly
	code := errorOf(func() { p = probability(params, e) })
	return p, code
}

func probability(params []string, e api.Expr) api.Poly {
	require(len(params) <= api.MaxParams, api.ErrLimit)
	whole := read(params, e)
	require(whole.exponent() <= api.MaxWeight, api.ErrLimit)
	p := whole.poly()
	requireRange(!isConstant(p) || isProbability(p))
	return p
}

func isConstant(p api.Poly) bool {
	return len(p) == 0 || p[0].Mono == api.Mono{}
}

// isProbability reports whether the constant p is from 0 to 1.
func isProbability(p api.Poly) bool {
	return len(p) == 0 || !p[0].Coef.Neg && rational.Cmp(p[0].Coef, rational.Int(1)) <= 0
}

// read returns the polynomial that e denotes.
func read(params []string, e api.Expr) late {
	var l []late
	for _, arg := range e.Args {
		l = append(l, read(params, arg))
	}
	requireType(len(l) == operands(e.Op))
	switch e.Op {
	case api.ExInt:
		return constant(rational.Int(e.Int))
	case api.ExRat:
		return constant(e.Rat)
	case api.ExName:
		v := slices.Index(params, e.Name)
		require(v >= 0, api.ErrName)
		p, _ := polynomial.Var(v)
		return known(p)
	case api.ExNeg:
		return l[0].negated()
	case api.ExAdd:
		return l[0].plus(l[1])
	case api.ExSub:
		return l[0].plus(l[1].negated())
	}
	return l[0].times(l[1])
}

// operands returns how many operands an operator of a probability has, or -1 for every other operator.
func operands(op int) int {
	switch op {
	case api.ExInt, api.ExRat, api.ExName:
		return 0
	case api.ExNeg:
		return 1
	case api.ExAdd, api.ExSub, api.ExMul:
		return 2
	}
	return -1
}
