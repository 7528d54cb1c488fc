package gcd

import "slices"

// Polynomials in one variable over a field are lists of their coefficients, from the power 0 on. The last one is not zero.

// trim returns a without the zeros at its end.
func trim(a []uint64) []uint64 {
	for len(a) > 0 && a[len(a)-1] == 0 {
		a = a[:len(a)-1]
	}
	return a
}

// remainder returns the remainder of a by b, which is not zero, in the memory of a.
func (f field) remainder(a, b []uint64) []uint64 {
	inverse := f.inverse(b[len(b)-1])
	for len(a) >= len(b) {
		factor := f.mul(a[len(a)-1], inverse)
		top := a[len(a)-len(b):]
		for i, c := range b {
			top[i] = f.sub(top[i], f.mul(factor, c))
		}
		a = trim(a)
	}
	return a
}

// gcd returns a greatest common divisor of a and b, not both zero, in the memory of one of them; it changes both.
func (f field) gcd(a, b []uint64) []uint64 {
	for len(b) > 0 {
		a, b = b, f.remainder(a, b)
	}
	return a
}

// scale multiplies all elements of a by c.
func (f field) scale(a []uint64, c uint64) {
	for i, x := range a {
		a[i] = f.mul(x, c)
	}
}

// rootProduct returns the product of z - r over all r in roots, as a polynomial in z.
func (f field) rootProduct(roots []uint64) []uint64 {
	product := make([]uint64, 1, len(roots)+1)
	product[0] = 1
	for _, root := range roots {
		product = append(product, 0)
		for i, c := range slices.Backward(product[:len(product)-1]) {
			product[i+1] = f.add(product[i+1], c)
			product[i] = f.mul(f.sub(0, root), c)
		}
	}
	return product
}
