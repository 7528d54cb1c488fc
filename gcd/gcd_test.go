package gcd

import (
	"testing"

	"exactppl/api"
	"exactppl/wide"
)

// Exponents beyond the limit. Greatest common divisors of other polynomials are tested in package divisor.
func TestLargeExponents(t *testing.T) {
	x := times(word(1), 1500)
	dense := wide.Pow(sumOf(times(word(1), 0, 1), one()), 1100)
	g := sumOf(times(word(3), 2000, 7), times(word(1), 100, 1300), times(word(5), 1))
	a := sumOf(times(word(1), 1, 5000), times(word(2), 0, 0, 1))
	b := sumOf(times(word(7), 1100), times(word(1), 0, 0, 0, 3), one())
	for _, c := range [][3]api.Poly{
		{g, a, b},
		{g, b, a},
		{x, a, b},
		{sumOf(x, one()), a, b},
		{one(), a, b},
		{g, g, a},
		{dense, sumOf(times(word(1), 1), times(word(1), 0, 3)), times(word(1), 2)},
	} {
		p, q := wide.Mul(c[0], c[1]), wide.Mul(c[0], c[2])
		if got := Of(p, q); !same(got, Monic(c[0])) {
			t.Errorf("a greatest common divisor is %v, not %v", got, c[0])
		}
		n, d := Reduce(p, q)
		if !same(d, Monic(c[2])) || !same(wide.Mul(n, c[2]), wide.Mul(d, c[1])) {
			t.Errorf("the lowest terms are %v and %v, not %v and %v", n, d, c[1], c[2])
		}
		if Coprime(p, q) != isConstant(c[0]) {
			t.Errorf("Coprime of %v and %v", p, q)
		}
	}
}

func same(p, q api.Poly) bool { return len(wide.Sub(p, q)) == 0 }

func TestZero(t *testing.T) {
	p := times(word(4), 2000)
	for _, c := range [][3]api.Poly{{nil, nil, nil}, {p, nil, Monic(p)}, {nil, p, Monic(p)}} {
		if got := Of(c[0], c[1]); !same(got, c[2]) || Coprime(c[0], c[1]) {
			t.Errorf("the greatest common divisor of %v and %v is %v", c[0], c[1], got)
		}
	}
	if n, d := Reduce(nil, p); len(n) > 0 || !same(d, one()) {
		t.Errorf("zero in lowest terms is %v and %v", n, d)
	}
}
