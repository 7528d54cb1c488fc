package gcd

import "exactppl/api"

// A set is a set of variables.
type set [api.MaxVars]bool

// only returns the set of v alone.
func only(v int) set {
	var s set
	s[v] = true
	return s
}

// A walk goes through the images of a polynomial in one variable, the kept one: the other variables get the numbers of a point first, and then the moving ones go through the powers of their numbers.
type walk struct {
	field
	exps   []int    // of the kept variable
	values []uint64 // of the terms, without the kept variable
	steps  []uint64 // by which the values are multiplied from one image to the next
	size   int      // of the images
}

// newWalk returns a walk for p, whose coefficients are integers.
func newWalk(f field, p api.Poly, kept int, x point, moving set) *walk {
	w := &walk{field: f}
	for _, t := range p {
		exp := t.Mono[kept]
		t.Mono[kept] = 0
		w.exps = append(w.exps, exp)
		w.values = append(w.values, f.mul(f.residue(t.Coef), f.value(t.Mono, x)))
		w.steps = append(w.steps, f.value(part(t.Mono, moving), x))
		w.size = max(w.size, exp+1)
	}
	return w
}

// next returns the next image: its coefficients from the power 0 on, the last ones of which can be zero.
func (w *walk) next() []uint64 {
	image := make([]uint64, w.size)
	for i, exp := range w.exps {
		image[exp] = w.add(image[exp], w.values[i])
		w.values[i] = w.mul(w.values[i], w.steps[i])
	}
	return image
}

// firstImage returns the image of p at the point x.
func firstImage(f field, p api.Poly, kept int, x point) []uint64 {
	return newWalk(f, p, kept, x, set{}).next()
}
