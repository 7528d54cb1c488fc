package gcd

import (
	"slices"

	"exactppl/api"
	"exactppl/wide"
)

// part returns the part of m with the variables of s.
func part(m api.Mono, s set) api.Mono {
	for v, in := range s {
		if !in {
			m[v] = 0
		}
	}
	return m
}

// mapped returns p with what change makes of its monomials, which must keep their order.
func mapped(p api.Poly, change func(m api.Mono) api.Mono) api.Poly {
	q := slices.Clone(p)
	for i, t := range q {
		q[i].Mono = change(t.Mono)
	}
	return q
}

// lowest returns the least exponent of each variable in p, which is not zero.
func lowest(p api.Poly) api.Mono {
	least := p[0].Mono
	for _, t := range p {
		for v, exp := range t.Mono {
			least[v] = min(least[v], exp)
		}
	}
	return least
}

// leading returns the coefficient of the greatest power of the variable v in p, which is not zero.
func leading(p api.Poly, v int) api.Poly {
	top := wide.Degrees(p)[v]
	var lead api.Poly
	for _, t := range p {
		if t.Mono[v] == top {
			t.Mono[v] = 0
			lead = append(lead, t)
		}
	}
	return lead
}

// split returns the coefficients of p as a polynomial in the variables of s alone.
func split(p api.Poly, s set) []api.Poly {
	places := map[api.Mono]int{}
	var coefs []api.Poly
	for _, t := range p {
		power := part(t.Mono, s)
		place, found := places[power]
		if !found {
			place = len(coefs)
			places[power] = place
			coefs = append(coefs, nil)
		}
		for v, exp := range power {
			t.Mono[v] -= exp
		}
		coefs[place] = append(coefs[place], t)
	}
	return coefs
}

// A frame tells how two polynomials become simpler: they are divided by monomials, and then powers of variables are taken for variables.
type frame struct {
	first, second api.Mono // the monomials
	strides       api.Mono // the powers
}

// newFrame returns the frame for p and q, which are not zero.
func newFrame(p, q api.Poly) frame {
	f := frame{first: lowest(p), second: lowest(q)}
	f.widen(p, f.first)
	f.widen(q, f.second)
	for v, stride := range f.strides {
		f.strides[v] = max(stride, 1)
	}
	return f
}

// widen makes the strides divide the exponents of p without the monomial low.
func (f *frame) widen(p api.Poly, low api.Mono) {
	for _, t := range p {
		for v, exp := range t.Mono {
			f.strides[v] = Int(exp-low[v], f.strides[v])
		}
	}
}

// narrow returns p, which has the monomial low, in the frame.
func (f *frame) narrow(p api.Poly, low api.Mono) api.Poly {
	return mapped(p, func(m api.Mono) api.Mono {
		for v := range m {
			m[v] = (m[v] - low[v]) / f.strides[v]
		}
		return m
	})
}

// restore returns the greatest common divisor, given the one in the frame.
func (f *frame) restore(p api.Poly) api.Poly {
	return mapped(p, func(m api.Mono) api.Mono {
		for v := range m {
			m[v] = m[v]*f.strides[v] + min(f.first[v], f.second[v])
		}
		return m
	})
}
