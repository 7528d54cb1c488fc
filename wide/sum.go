package wide

import (
	"slices"

	"exactppl/api"
	"exactppl/rational"
)

// An order is a direction in which terms are sorted by their monomials.
type order int

// descending is the order of the normal form.
const descending order = -1

// compare compares the monomials of two terms, the exponents of variable 0 first.
func (o order) compare(a, b api.Term) int {
	return int(o) * slices.Compare(a.Mono[:], b.Mono[:])
}

// A sum has one term for each monomial that was added to it. Terms stand in the order in which their monomials came; their coefficients are in normal form, and may be zero.
type sum struct {
	places map[api.Mono]int // where the term of a monomial stands
	terms  []api.Term
}

// newSum returns an empty sum with room for about n terms.
func newSum(n int) sum {
	return sum{places: make(map[api.Mono]int, n), terms: make([]api.Term, 0, n)}
}

// add adds a term and reports whether its monomial is new. The coefficient c is kept.
func (s *sum) add(m api.Mono, c api.Rat) bool {
	if place, found := s.places[m]; found {
		t := &s.terms[place]
		t.Coef = rational.Add(t.Coef, c)
		return false
	}
	s.places[m] = len(s.terms)
	s.terms = append(s.terms, api.Term{Mono: m, Coef: c})
	return true
}

// addTerms adds the terms of p, which need not be in normal form, with the coefficients that change returns in new memory.
func (s *sum) addTerms(p api.Poly, change func(api.Rat) api.Rat) {
	for _, t := range p {
		s.add(t.Mono, change(t.Coef))
	}
}

// addProducts adds p q; p and q need not be in normal form.
func (s *sum) addProducts(p, q api.Poly) {
	for _, t := range p {
		for _, u := range q {
			s.add(monoProduct(t.Mono, u.Mono), rational.Mul(t.Coef, u.Coef))
		}
	}
}

// poly returns the normal form of the sum, in its memory.
func (s *sum) poly() api.Poly {
	terms := slices.DeleteFunc(s.terms, isZero)
	slices.SortFunc(terms, descending.compare)
	return terms
}

// isZero reports whether a term denotes zero.
func isZero(t api.Term) bool { return rational.Sign(t.Coef) == 0 }

// monoProduct returns the product of two monomials.
func monoProduct(a, b api.Mono) api.Mono {
	for v, exp := range b {
		a[v] += exp
	}
	return a
}
