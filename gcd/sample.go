package gcd

import (
	"slices"

	"exactppl/api"
)

// A problem is a search for the greatest common divisor g of two polynomials a and b with integer coefficients, which no polynomial without the variable kept divides. What is found is g times the polynomial that makes its leading coefficient in kept equal to lead, the greatest common divisor of those of a and b: the target. Unlike g, the target can be put together from images that are known up to a factor.
type problem struct {
	a, b, lead api.Poly
	kept       int
	others     []int    // the other variables
	most       api.Mono // bounds for the degrees of the target
}

// A sample is what a problem looks like modulo a prime, near a point.
type sample struct {
	field
	*problem
	point  point
	degree int // of the target in the variable kept, or unknown
}

const unknown = -1

// A shape tells which monomials without the variable kept the target has beside each power of it that is less than the degree.
type shape [][]api.Mono

// images returns a function that returns the images of the target, without the leading coefficients, where the moving variables go through the powers of their numbers, or false if an image is not like the others.
func (s *sample) images(moving set) func() ([]uint64, bool) {
	a := newWalk(s.field, s.a, s.kept, s.point, moving)
	b := newWalk(s.field, s.b, s.kept, s.point, moving)
	lead := newWalk(s.field, s.lead, s.kept, s.point, moving)
	return func() ([]uint64, bool) {
		first, second, scale := a.next(), b.next(), lead.next()[0]
		if first[a.size-1] == 0 || second[b.size-1] == 0 {
			return nil, false
		}
		image := s.gcd(first, second)
		top := len(image) - 1
		if s.degree == unknown {
			s.degree = top
		}
		s.scale(image, s.mul(scale, s.inverse(image[top])))
		return image[:top], s.degree == top
	}
}

// fit returns the coefficients that the target has where the variables that do not move are replaced by the numbers of the point. It returns false if it does not have the given shape there.
func (s *sample) fit(form shape, moving set) ([][]uint64, bool) {
	count := 0
	for _, monos := range form {
		count = max(count, len(monos))
	}
	if moving != (set{}) {
		count++ // one more than necessary, to see whether the shape is right
	}
	rows := make([][]uint64, count)
	next := s.images(moving)
	for i := range rows {
		row, ok := next()
		if !ok {
			return nil, false
		}
		rows[i] = row
	}
	coefs := make([][]uint64, len(form))
	for power, monos := range form {
		var ok bool
		coefs[power], ok = s.fitOne(monos, column(rows, power))
		if !ok {
			return nil, false
		}
	}
	return coefs, true
}

// column returns the elements i of all rows.
func column(rows [][]uint64, i int) []uint64 {
	var values []uint64
	for _, row := range rows {
		values = append(values, row[i])
	}
	return values
}

// fitOne returns the coefficients of the monomials in the moving variables whose sums have the given values, or false if there are none.
func (s *sample) fitOne(monos []api.Mono, values []uint64) ([]uint64, bool) {
	var nodes []uint64
	for _, m := range monos {
		nodes = append(nodes, s.value(m, s.point))
	}
	coefs, ok := s.solve(nodes, values[:len(nodes)])
	if !ok {
		return nil, false
	}
	for i, value := range values[len(nodes):] {
		if s.element(coefs, nodes, len(nodes)+i) != value {
			return nil, false
		}
	}
	return coefs, true
}

// explore finds the shape of the target and its coefficients: it sets one variable after the other in motion, so that each one adds to the monomials that are known without it (Zippel's method).
func (s *sample) explore() (form shape, coefs [][]uint64, ok bool) {
	var moving set
	base, ok := s.images(moving)()
	if !ok {
		return nil, nil, false
	}
	for _, c := range base {
		form, coefs = append(form, []api.Mono{{}}), append(coefs, []uint64{c})
	}
	form.drop(coefs)
	for _, v := range s.others {
		powers, ok := s.powers(v)
		if !ok {
			return nil, nil, false
		}
		form.multiply(v, powers)
		moving[v] = true
		coefs, ok = s.fit(form, moving)
		if !ok {
			return nil, nil, false
		}
		form.drop(coefs)
	}
	return form, coefs, true
}

// powers returns the powers of the variable v that can occur beside each power of the variable kept. They are found where v alone moves: if they are few, a short recurrence tells them after few images.
func (s *sample) powers(v int) ([][]int, bool) {
	next := s.images(only(v))
	var columns []recurrence
	for range s.degree {
		columns = append(columns, newRecurrence(s.field))
	}
	settled := false
	for count := 0; count <= s.most[v] && !settled; count++ {
		image, ok := next()
		if !ok {
			return nil, false
		}
		settled = true
		for i, value := range image {
			columns[i].extend(value)
			settled = settled && columns[i].settled()
		}
	}
	powers := make([][]int, s.degree)
	for i := range columns {
		var ok bool
		powers[i], ok = columns[i].powers(s.point[v], s.most[v])
		if !ok {
			return nil, false
		}
	}
	return powers, true
}

// multiply replaces each monomial by its products with the powers of v that belong to its power.
func (form shape) multiply(v int, powers [][]int) {
	for i, monos := range form {
		var products []api.Mono
		for _, m := range monos {
			for _, exp := range powers[i] {
				m[v] = exp
				products = append(products, m)
			}
		}
		form[i] = products
	}
}

// drop removes the monomials with the coefficient zero, and their coefficients.
func (form shape) drop(coefs [][]uint64) {
	for i, monos := range form {
		var kept []api.Mono
		for j, m := range monos {
			if coefs[i][j] != 0 {
				kept = append(kept, m)
			}
		}
		form[i] = kept
		coefs[i] = slices.DeleteFunc(coefs[i], func(c uint64) bool { return c == 0 })
	}
}
