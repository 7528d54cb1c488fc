package wide

import (
	"container/heap"
	"slices"

	"exactppl/api"
	"exactppl/rational"
)

// A remainder is what a division has left of the dividend: a sum, and a heap of the places of its terms, the greatest monomial first.
type remainder struct {
	sum
	queue []int
}

// newRemainder returns p as a remainder, which keeps its coefficients.
func newRemainder(p api.Poly) *remainder {
	r := &remainder{sum: newSum(len(p))}
	for _, t := range p {
		r.add(t.Mono, t.Coef)
	}
	return r
}

// add adds a term. The coefficient c is kept.
func (r *remainder) add(m api.Mono, c api.Rat) {
	if r.sum.add(m, c) {
		heap.Push(r, len(r.terms)-1)
	}
}

// next takes out the first term that is not zero. It returns false if there is none.
func (r *remainder) next() (api.Term, bool) {
	for len(r.queue) > 0 {
		t := r.terms[heap.Pop(r).(int)]
		if !isZero(t) {
			return t, true
		}
	}
	return api.Term{}, false
}

// Len is a method of heap.Interface, as the next four.
func (r *remainder) Len() int { return len(r.queue) }

// Less reports whether the monomial at i is greater than the one at j.
func (r *remainder) Less(i, j int) bool {
	return descending.compare(r.terms[r.queue[i]], r.terms[r.queue[j]]) < 0
}

// Swap exchanges two places.
func (r *remainder) Swap(i, j int) { r.queue[i], r.queue[j] = r.queue[j], r.queue[i] }

// Push appends a place.
func (r *remainder) Push(place any) { r.queue = append(r.queue, place.(int)) }

// Pop takes off the last place.
func (r *remainder) Pop() any {
	last := len(r.queue) - 1
	place := r.queue[last]
	r.queue = r.queue[:last]
	return place
}

// Divide returns p divided by q, which is not zero, or ErrUnequal if q does not divide p.
func Divide(p, q api.Poly) (api.Poly, api.Errno) {
	var quotient api.Poly
	first, others := q[0], q[1:]
	room := monoQuotient(Degrees(p), Degrees(q)) // the degrees of factors add up
	rest := newRemainder(p)
	for t, found := rest.next(); found; t, found = rest.next() {
		m := monoQuotient(t.Mono, first.Mono)
		// A quotient that gets long may be the beginning of a division that fails after very many terms.
		if !between(m, room) || len(quotient) == len(p) && imagesFail(p, q) {
			return nil, api.ErrUnequal
		}
		c, _ := rational.Div(t.Coef, first.Coef)
		quotient = append(quotient, api.Term{Mono: m, Coef: c})
		minus := rational.Neg(c)
		for _, u := range others {
			rest.add(monoProduct(m, u.Mono), rational.Mul(minus, u.Coef))
		}
	}
	return quotient, api.OK
}

// imagesFail reports whether q, which is not constant, certainly does not divide p: it does not with numbers in the places of all variables but one. False means nothing.
func imagesFail(p, q api.Poly) bool {
	kept := slices.IndexFunc(q[0].Mono[:], func(exp int) bool { return exp > 0 })
	if isAlone(p, kept) && isAlone(q, kept) {
		return false // they are their own images
	}
	a, b := image(p, kept), image(q, kept)
	if len(b) == 0 {
		return false
	}
	_, e := Divide(a, b)
	return e != api.OK
}

// isAlone reports whether no variable but v occurs in p.
func isAlone(p api.Poly, v int) bool {
	most := Degrees(p)
	most[v] = 0
	return most == api.Mono{}
}

// image returns p with a number in the place of each variable but kept.
func image(p api.Poly, kept int) api.Poly {
	for v, exp := range Degrees(p) {
		if exp > 0 && v != kept {
			p = Replace(p, v, Const(rational.Int(v+2)))
		}
	}
	return p
}

// monoQuotient returns the monomial a divided by b, with negative exponents if b does not divide a.
func monoQuotient(a, b api.Mono) api.Mono {
	for v, exp := range b {
		a[v] -= exp
	}
	return a
}

// between reports whether the exponents of m are from 0 to those of most.
func between(m, most api.Mono) bool {
	for v, exp := range m {
		if exp < 0 || exp > most[v] {
			return false
		}
	}
	return true
}
