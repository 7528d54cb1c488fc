package measure

import (
	"exactppl/api"
	"exactppl/polynomial"
)

// Accepted returns the sum of the masses of the rows of m.
func Accepted(m api.Measure) (api.Poly, api.Errno) {
	m, e := normal(m)
	return joined(m.Rows), e
}

// Total returns the sum of the accepted, the rejected and the cut mass of m.
func Total(m api.Measure) (api.Poly, api.Errno) {
	m, e := normal(m)
	return joined(m.Rows, m.Rejected, m.Cut), e
}

// Mass returns the mass of the row of m with a key, or zero if there is none.
func Mass(m api.Measure, key []int) (api.Poly, api.Errno) {
	m, e := normal(m)
	if at, found := place(m.Rows, key); found {
		return m.Rows[at].Mass, e
	}
	return nil, e
}

// Scale returns m with all masses multiplied by p.
func Scale(m api.Measure, p api.Poly) (api.Measure, api.Errno) {
	m, e := normal(m)
	if e != api.OK {
		return api.Measure{}, e
	}
	return changed(m, func(mass api.Poly) (api.Poly, api.Errno) { return polynomial.Mul(mass, p) })
}

// Eval returns m with the values of the masses where the variable i is x[i], and 0 if x has no such element. It returns ErrRange if x has more than MaxVars elements.
func Eval(m api.Measure, x []api.Rat) (api.Measure, api.Errno) {
	m, e := normal(m)
	if e != api.OK {
		return api.Measure{}, e
	}
	return changed(m, func(mass api.Poly) (api.Poly, api.Errno) {
		r, e := polynomial.Eval(mass, x)
		return polynomial.Const(r), e
	})
}
