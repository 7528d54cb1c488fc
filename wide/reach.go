package wide

import (
	"cmp"
	"slices"

	"exactppl/api"
)

// A Reach tells how far the exponents of a sum can go, before it is computed: the greatest exponent of each variable in its parts, and whether the sum surely has it too, because nothing cancels it.
type Reach struct {
	Most api.Mono
	Sure [api.MaxVars]bool
}

// Add adds a part, which is the product of the factors.
func (r *Reach) Add(factors ...api.Poly) {
	var degrees api.Mono // those of factors add up
	for _, p := range factors {
		if len(p) == 0 {
			return
		}
		degrees = monoProduct(degrees, Degrees(p))
	}
	r.add(degrees)
}

func (r *Reach) add(degrees api.Mono) {
	for v, exp := range degrees {
		switch {
		case exp > r.Most[v]:
			r.Most[v], r.Sure[v] = exp, true
		case exp == r.Most[v]:
			r.Sure[v] = false
		}
	}
}

// Insertion returns the reach of Insert(coefs, q, r), where r is not zero.
func Insertion(coefs []api.Poly, q, r api.Poly) Reach {
	var whole Reach
	inQ, inR := Degrees(q), Degrees(r)
	for i, c := range coefs {
		if len(c) > 0 && (i == 0 || len(q) > 0) {
			whole.add(inserted(Degrees(c), inQ, inR, i, len(coefs)-1-i))
		}
	}
	for v, most := range whole.Most {
		if most > api.MaxExp && !whole.Sure[v] {
			whole.Sure[v] = isSure(coefs, q, r, v)
		}
	}
	return whole
}

// inserted returns the monomial of c q^i r^j, given those of c, q and r.
func inserted(c, q, r api.Mono, i, j int) api.Mono {
	return monoProduct(c, monoProduct(monoPower(q, i), monoPower(r, j)))
}

// isSure reports whether the sum of Insert(coefs, q, r), where q and r are not zero, surely has the exponent of v that its parts have: the coefficients of the first monomial of all parts do not cancel, in an order in which the exponents of v are compared first.
func isSure(coefs []api.Poly, q, r api.Poly, v int) bool {
	var first api.Mono
	numbers := make([]api.Poly, len(coefs)) // of the parts that have this monomial
	inQ, inR := Ahead(q, v), Ahead(r, v)
	for i, c := range coefs {
		if len(c) == 0 {
			continue
		}
		t := Ahead(c, v)
		m := inserted(t.Mono, inQ.Mono, inR.Mono, i, len(coefs)-1-i)
		order := Compare(v, m, first)
		if order > 0 {
			first = m
			clear(numbers)
		}
		if order >= 0 {
			numbers[i] = Const(t.Coef)
		}
	}
	return len(Insert(numbers, Const(inQ.Coef), Const(inR.Coef))) > 0
}

// Compare returns -1, 0 or 1 as the monomial a is less than, equal to or greater than b, in an order in which the exponents of v are compared first.
func Compare(v int, a, b api.Mono) int {
	return cmp.Or(cmp.Compare(a[v], b[v]), slices.Compare(a[:], b[:]))
}

// Ahead returns the greatest term of p, which is not zero, in the order of Compare. It is in the memory of p.
func Ahead(p api.Poly, v int) api.Term {
	first := p[0]
	for _, t := range p {
		if t.Mono[v] > first.Mono[v] {
			first = t
		}
	}
	return first
}

// Beyond reports whether an exponent greater than MaxExp is certain in the sum, also when it is divided by a polynomial whose exponents are at most those of divisor. Otherwise only the sum itself can tell.
func (r Reach) Beyond(divisor api.Mono) bool {
	for v, exp := range r.Most {
		if r.Sure[v] && exp-divisor[v] > api.MaxExp {
			return true
		}
	}
	return false
}

// Within reports whether no exponent of p is greater than MaxExp.
func Within(p api.Poly) bool {
	var r Reach
	r.Add(p)
	return !r.Beyond(api.Mono{})
}
