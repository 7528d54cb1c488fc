package gcd

import (
	"cmp"
	"slices"

	"exactppl/api"
	"exactppl/wide"
)

// A gcdFunc returns the greatest common divisor of two polynomials, multiplied by a number other than zero.
type gcdFunc func(p, q api.Poly) api.Poly

// greatest returns the greatest common divisor of p and q, multiplied by a number other than zero.
func greatest(p, q api.Poly) api.Poly {
	var gcd gcdFunc
	gcd = func(p, q api.Poly) api.Poly {
		if len(p) == 0 {
			return q
		}
		if len(q) == 0 {
			return p
		}
		f := newFrame(p, q)
		a, b := primitive(f.narrow(p, f.first)), primitive(f.narrow(q, f.second))
		bounds := degreeBounds(a, b)
		g := gcd.simple(a, b, bounds)
		if g == nil {
			v := cheapest(a, b)
			contentA, contentB := gcd.content(a, v), gcd.content(b, v)
			g = gcd.withoutContent(quotient(a, contentA), quotient(b, contentB), v, bounds)
			g = wide.Mul(g, gcd(contentA, contentB))
		}
		return f.restore(g)
	}
	return gcd(p, q)
}

// simple returns the greatest common divisor of a and b if it lacks a variable of theirs, or is one of them, and otherwise nil.
func (gcd gcdFunc) simple(a, b api.Poly, bounds api.Mono) api.Poly {
	inA, inB := wide.Degrees(a), wide.Degrees(b)
	var gone set // the variables that no common divisor has
	for v, bound := range bounds {
		gone[v] = bound == 0 && max(inA[v], inB[v]) > 0
	}
	switch {
	case bounds == api.Mono{}:
		return one()
	case gone != set{}:
		return gcd.ofAll(slices.Concat(split(a, gone), split(b, gone)))
	case bounds == inA && divides(a, b):
		return a
	case bounds == inB && divides(b, a):
		return b
	}
	return nil
}

// ofAll returns the greatest common divisor of the polynomials of a list, none of them zero, with coprime integers as coefficients.
func (gcd gcdFunc) ofAll(l []api.Poly) api.Poly {
	slices.SortStableFunc(l, func(p, q api.Poly) int { return cmp.Compare(len(p), len(q)) })
	g := l[0]
	for _, p := range l[1:] {
		if isConstant(g) {
			break
		}
		g = gcd(g, p)
	}
	return primitive(g)
}

// content returns the greatest common divisor of the coefficients of p as a polynomial in v.
func (gcd gcdFunc) content(p api.Poly, v int) api.Poly { return gcd.ofAll(split(p, only(v))) }

// withoutContent returns the greatest common divisor of a and b, whose coefficients are integers, and whose contents for the variable v are 1. Its exponents are at most bounds.
func (gcd gcdFunc) withoutContent(a, b api.Poly, v int, bounds api.Mono) api.Poly {
	p := problem{a: a, b: b, kept: v, lead: gcd.integral(leading(a, v), leading(b, v))}
	inA, inB, inLead := wide.Degrees(a), wide.Degrees(b), wide.Degrees(p.lead)
	for other, bound := range bounds {
		p.most[other] = min(bound+inLead[other], inA[other], inB[other])
		if other != v && p.most[other] > 0 {
			p.others = append(p.others, other)
		}
	}
	return p.search(func(target api.Poly) (api.Poly, bool) {
		g := primitive(quotient(target, gcd.content(target, v)))
		// Its degree in v is that of an image, which no common divisor exceeds.
		return g, divides(g, a) && divides(g, b)
	})
}

// integral returns the greatest common divisor of p and q, whose coefficients are integers, among the polynomials with integer coefficients.
func (gcd gcdFunc) integral(p, q api.Poly) api.Poly {
	number := commonNumber(numberContent(p), numberContent(q))
	return wide.Mul(primitive(gcd(p, q)), wide.Const(number))
}

// degreeBounds returns for each variable a number that its degree in no common divisor of a and b exceeds. Nearly always it is the degree in the greatest one.
func degreeBounds(a, b api.Poly) api.Mono {
	inA, inB := wide.Degrees(a), wide.Degrees(b)
	x := firstField.point()
	var bounds api.Mono
	for v := range bounds {
		bounds[v] = min(inA[v], inB[v])
		if bounds[v] == 0 {
			continue
		}
		first, second := firstImage(firstField, a, v, x), firstImage(firstField, b, v, x)
		// Where the leading coefficients are not zero, that of a divisor is not zero either, and its image has its degree.
		if first[inA[v]] != 0 && second[inB[v]] != 0 {
			bounds[v] = len(firstField.gcd(first, second)) - 1
		}
	}
	return bounds
}

// cheapest returns the variable of a and b for which images take the least work.
func cheapest(a, b api.Poly) int {
	best, least := 0, 0
	inA, inB := wide.Degrees(a), wide.Degrees(b)
	for v := range inA {
		work := inA[v] * inB[v] * min(len(leading(a, v)), len(leading(b, v)))
		if work > 0 && (least == 0 || work < least) {
			best, least = v, work
		}
	}
	return best
}
