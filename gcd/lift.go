package gcd

import (
	"exactppl/api"
	"exactppl/rational"
	"exactppl/wide"
)

// A lift is the target of a problem as far as it is known: its shape, and integers that agree with its coefficients modulo the product of the primes so far. They are the ones next to zero, so that enough primes make them equal to the coefficients.
type lift struct {
	form    shape
	numbers [][]api.Rat
	modulus api.Rat
}

// newLift returns a lift for a shape with the given coefficients in a field.
func newLift(f field, form shape, coefs [][]uint64) *lift {
	l := &lift{form: form, modulus: rational.Int(1)}
	for _, monos := range form {
		zeros := make([]api.Rat, len(monos))
		for i := range zeros {
			zeros[i] = rational.Int(0)
		}
		l.numbers = append(l.numbers, zeros)
	}
	l.refine(f, coefs)
	return l
}

// refine makes the integers agree with the coefficients in a new field too. It reports whether one of them changes.
func (l *lift) refine(f field, coefs [][]uint64) bool {
	changed := false
	unit := f.inverse(f.residue(l.modulus))
	for i, numbers := range l.numbers {
		for j, number := range numbers {
			digit := f.mul(f.sub(coefs[i][j], f.residue(number)), unit)
			if digit != 0 {
				numbers[j] = rational.Add(number, rational.Mul(l.modulus, rational.Int(f.signed(digit))))
				changed = true
			}
		}
	}
	l.modulus = rational.Mul(l.modulus, rational.Int(int(f)))
	return changed
}

// target returns the polynomial of the lift for a problem.
func (l *lift) target(p *problem) api.Poly {
	terms := shifted(p.lead, p.kept, len(l.form))
	for power, monos := range l.form {
		for i, m := range monos {
			m[p.kept] = power
			terms = append(terms, api.Term{Mono: m, Coef: l.numbers[power][i]})
		}
	}
	return wide.Norm(terms)
}

// shifted returns p times v^exp, in new memory.
func shifted(p api.Poly, v, exp int) api.Poly {
	return mapped(p, func(m api.Mono) api.Mono {
		m[v] += exp
		return m
	})
}

// search returns what accept makes of the target, as soon as it accepts it. Images are wrong where the prime or the point is a root of certain polynomials that depend on the problem; then it goes on with the next prime and a point of its own. It ends because polynomials have few roots.
func (p *problem) search(accept func(target api.Poly) (api.Poly, bool)) api.Poly {
	var known *lift
	for f := firstField; ; f = f.next() {
		s := sample{field: f, problem: p, point: f.point(), degree: unknown}
		if known == nil {
			if form, coefs, ok := s.explore(); ok {
				known = newLift(f, form, coefs)
			}
			continue
		}
		coefs, ok := s.fitAll(known.form)
		if ok && known.refine(f, coefs) {
			continue
		}
		if ok {
			if g, ok := accept(known.target(p)); ok {
				return g
			}
		}
		known = nil
	}
}

// fitAll returns the coefficients of the shape of the whole target.
func (s *sample) fitAll(form shape) ([][]uint64, bool) {
	var moving set
	for _, v := range s.others {
		moving[v] = true
	}
	s.degree = len(form)
	return s.fit(form, moving)
}
