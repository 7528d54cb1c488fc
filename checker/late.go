package checker

import (
	"exactppl/api"
	"exactppl/polynomial"
	"exactppl/rational"
	"exactppl/wide"
)

// A late polynomial is multiplied out as late as possible: its leading terms tell whether an exponent is too large, before products are multiplied out that can have very many terms. Its parts have no limit of exponents, because what is too large in them may cancel.
type late struct {
	leads [api.MaxParams]api.Poly // for each parameter v the term that is ahead in the order of wide.Compare, and nothing for the zero polynomial
	poly  func() api.Poly
}

// known returns p, which is multiplied out.
func known(p api.Poly) late {
	l := late{poly: func() api.Poly { return p }}
	for v := range l.leads {
		if len(p) > 0 {
			l.leads[v] = api.Poly{wide.Ahead(p, v)}
		}
	}
	return l
}

func constant(r api.Rat) late { return known(polynomial.Const(r)) }

// isZero reports whether l is the zero polynomial.
func (l late) isZero() bool { return len(l.leads[0]) == 0 }

// exponent returns the greatest exponent of a parameter.
func (l late) exponent() int {
	most := 0
	for v, lead := range l.leads {
		most = max(most, wide.Degrees(lead)[v])
	}
	return most
}

func (l late) times(m late) late {
	if l.isZero() || m.isZero() {
		return known(nil)
	}
	product := late{poly: func() api.Poly { return wide.Mul(l.poly(), m.poly()) }}
	for v := range product.leads {
		product.leads[v] = wide.Mul(l.leads[v], m.leads[v])
	}
	return product
}

func (l late) negated() late { return l.times(constant(rational.Int(-1))) }

// plus returns the sum. Only the sum itself tells what leads it where the leading terms cancel.
func (l late) plus(m late) late {
	switch {
	case m.isZero():
		return l
	case l.isZero():
		return m
	}
	sum := late{poly: func() api.Poly { return wide.Add(l.poly(), m.poly()) }}
	for v := range sum.leads {
		sum.leads[v] = leadOfSum(v, l.leads[v], m.leads[v])
		if len(sum.leads[v]) == 0 {
			return known(sum.poly())
		}
	}
	return sum
}

// leadOfSum returns the leading term of a sum for the parameter v, given those of its parts, or nothing if they cancel.
func leadOfSum(v int, a, b api.Poly) api.Poly {
	switch wide.Compare(v, a[0].Mono, b[0].Mono) {
	case 1:
		return a
	case -1:
		return b
	}
	return wide.Add(a, b)
}
