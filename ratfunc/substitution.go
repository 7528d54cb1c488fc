package ratfunc

import (
	"exactppl/api"
	"exactppl/gcd"
	"exactppl/polynomial"
	"exactppl/wide"
)

// A substitution puts the function by in the place of the variable v of the function outer. With by = q / r, and n and d as the coefficients of the powers of v in the numerator and the denominator of outer, filled up to the same length, the result is the sum of n[i] q^i r^(top-i) divided by that of d[i] q^i r^(top-i).
type substitution struct {
	v         int
	outer, by function
	n, d      []api.Poly
}

func newSubstitution(outer function, v int, by function) substitution {
	s := substitution{v: v, outer: outer, by: by, n: wide.Coefs(outer.num, v), d: wide.Coefs(outer.den, v)}
	size := max(len(s.n), len(s.d))
	s.n = append(s.n, make([]api.Poly, size-len(s.n))...)
	s.d = append(s.d, make([]api.Poly, size-len(s.d))...)
	return s
}

// Substitute returns f with g in the place of the variable v. It returns ErrDivide if the denominator of the normal form of f becomes zero.
func Substitute(f api.Quot, v int, g api.Quot) (api.Quot, api.Errno) {
	a, b, e := reducedBoth(f, g)
	switch {
	case e != api.OK:
		return api.Quot{}, e
	case !isVariable(v):
		return api.Quot{}, api.ErrRange
	}
	s := newSubstitution(a, v, b)
	if s.beyond(wide.Insertion(s.n, b.num, b.den), wide.Insertion(s.d, b.num, b.den)) {
		return quot(s.early())
	}
	return quot(s.result())
}

// result returns the result of the substitution, or its error.
func (s *substitution) result() (function, api.Errno) {
	num := wide.Insert(s.n, s.by.num, s.by.den)
	den := wide.Insert(s.d, s.by.num, s.by.den)
	if len(den) == 0 {
		return function{}, api.ErrDivide
	}
	var inNum, inDen wide.Reach
	inNum.Add(num)
	inDen.Add(den)
	if len(num) > 0 && s.beyond(inNum, inDen) {
		return function{}, api.ErrLimit
	}
	return limited(gcd.Reduce(num, den))
}

// early returns the result if num or den, where they are not zero, surely exceed the limit.
func (s *substitution) early() (function, api.Errno) {
	switch {
	case s.isRoot(s.outer.den):
		return function{}, api.ErrDivide
	case s.isRoot(s.outer.num):
		return function{nil, one()}, api.OK
	}
	return function{}, api.ErrLimit
}

// isRoot reports whether p, which is not zero, becomes zero with by in the place of v.
func (s *substitution) isRoot(p api.Poly) bool {
	if wide.Degrees(s.by.num)[s.v]+wide.Degrees(s.by.den)[s.v] > 0 {
		return false // by is not a root of a polynomial whose coefficients lack v
	}
	variable, _ := polynomial.Var(s.v)
	product, _ := polynomial.Mul(variable, s.by.den)
	factor, _ := polynomial.Sub(product, s.by.num)
	_, e := polynomial.Divide(p, factor)
	return e == api.OK
}

// beyond reports whether num or den, of which the reaches are given, surely exceed the limit in lowest terms if they are not zero. A common divisor of them divides the resultant of n and d, which is a determinant with as many rows of n as of d.
func (s *substitution) beyond(num, den wide.Reach) bool {
	rows := s.rows()
	inNum, inDen := wide.Degrees(s.outer.num), wide.Degrees(s.outer.den)
	var resultant api.Mono
	for v := range resultant {
		if v != s.v {
			resultant[v] = rows * (inNum[v] + inDen[v])
		}
	}
	return num.Beyond(least(resultant, den.Most)) || den.Beyond(least(resultant, num.Most))
}

// rows returns the number of the rows of n in the resultant. If only powers of a power of v occur, that power is taken for v.
func (s *substitution) rows() int {
	stride := 0
	for i := range s.n {
		if len(s.n[i])+len(s.d[i]) > 0 {
			stride = gcd.Int(i, stride)
		}
	}
	return (len(s.n) - 1) / max(stride, 1)
}

// least returns the lesser exponent of each variable.
func least(a, b api.Mono) api.Mono {
	for v, exp := range b {
		a[v] = min(a[v], exp)
	}
	return a
}
