package wide

import "exactppl/api"

// A Reach tells how far the exponents of a sum can go, before it is computed: the greatest exponent of each variable in its parts, and whether the sum surely has it too, because nothing cancels it.
type Reach struct {
	Most api.Mono
	Sure [api.MaxVars]bool
}

// Add adds a part, which is the product of the factors.
func (r *Reach) Add(factors ...api.Poly) {
	var degrees api.Mono // those of factors add up
	for _, p := range factors {
		if len(p) == 0 {
			return
		}
		degrees = monoProduct(degrees, Degrees(p))
	}
	r.add(degrees)
}

func (r *Reach) add(degrees api.Mono) {
	for v, exp := range degrees {
		switch {
		case exp > r.Most[v]:
			r.Most[v], r.Sure[v] = exp, true
		case exp == r.Most[v]:
			r.Sure[v] = false
		}
	}
}

// Insertion returns the reach of Insert(coefs, q, r).
func Insertion(coefs []api.Poly, q, r api.Poly) Reach {
	var whole Reach
	parts := make([]api.Mono, len(coefs)) // the degrees of the parts
	inQ, inR := Degrees(q), Degrees(r)
	for i, c := range coefs {
		if len(c) == 0 || i > 0 && len(q) == 0 {
			continue
		}
		rest := len(coefs) - 1 - i
		parts[i] = monoProduct(Degrees(c), monoProduct(monoPower(inQ, i), monoPower(inR, rest)))
		whole.add(parts[i])
	}
	for v, most := range whole.Most {
		if most > api.MaxExp && !whole.Sure[v] {
			whole.Sure[v] = len(topImage(coefs, parts, q, r, v, most)) > 0
		}
	}
	return whole
}

// topImage returns the coefficient of v^most in Insert(coefs, q, r), with a number in the place of each variable. The parts have the given degrees, of which most is the greatest one in v.
func topImage(coefs []api.Poly, parts []api.Mono, q, r api.Poly, v, most int) api.Poly {
	images := make([]api.Poly, len(coefs))
	for i, c := range coefs {
		if parts[i][v] == most {
			images[i] = image(leading(c, v), v)
		}
	}
	return Insert(images, image(leading(q, v), v), image(leading(r, v), v))
}

// Beyond reports whether an exponent greater than MaxExp is certain in the sum, also when it is divided by a polynomial whose exponents are at most those of divisor. Otherwise only the sum itself can tell.
func (r Reach) Beyond(divisor api.Mono) bool {
	for v, exp := range r.Most {
		if r.Sure[v] && exp-divisor[v] > api.MaxExp {
			return true
		}
	}
	return false
}

// Within reports whether no exponent of p is greater than MaxExp.
func Within(p api.Poly) bool {
	var r Reach
	r.Add(p)
	return !r.Beyond(api.Mono{})
}
