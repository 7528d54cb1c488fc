package gcd

import (
	"math/bits"

	"exactppl/api"
)

// A field consists of the numbers modulo a prime, which is less than 2^62.
type field uint64

// firstField has the greatest of these primes.
const firstField field = 1<<62 - 57

func (f field) add(a, b uint64) uint64 {
	sum := a + b
	if sum >= uint64(f) {
		sum -= uint64(f)
	}
	return sum
}

func (f field) sub(a, b uint64) uint64 {
	if a < b {
		a += uint64(f)
	}
	return a - b
}

func (f field) mul(a, b uint64) uint64 {
	high, low := bits.Mul64(a, b)
	_, rest := bits.Div64(high, low, uint64(f))
	return rest
}

// power returns a to the power n.
func (f field) power(a, n uint64) uint64 {
	result := uint64(1)
	for bit := bits.Len64(n) - 1; bit >= 0; bit-- {
		result = f.mul(result, result)
		if n>>bit&1 == 1 {
			result = f.mul(result, a)
		}
	}
	return result
}

// inverse returns 1 divided by a, which is not zero.
func (f field) inverse(a uint64) uint64 { return f.power(a, uint64(f)-2) }

// residue returns the integer a in normal form modulo the prime.
func (f field) residue(a api.Rat) uint64 {
	rest := uint64(0)
	for i := len(a.Num) - 1; i >= 0; i-- {
		rest = f.add(f.mul(rest, 1<<32), uint64(a.Num[i]))
	}
	if a.Neg {
		rest = f.sub(0, rest)
	}
	return rest
}

// signed returns the integer with the residue a that is next to zero.
func (f field) signed(a uint64) int {
	if a > uint64(f)/2 {
		return -int(uint64(f) - a)
	}
	return int(a)
}

// next returns the field with the greatest prime less than that of f.
func (f field) next() field {
	f--
	for !f.isPrime() {
		f--
	}
	return f
}

// isPrime reports whether the number of f, which is greater than the bases, is a prime (the test of Miller and Rabin, which is certain with these bases for all numbers of 64 bits).
func (f field) isPrime() bool {
	bases := [...]uint64{2, 3, 5, 7, 11, 13, 17, 19, 23, 29, 31, 37}
	for _, base := range bases {
		if uint64(f)%base == 0 {
			return false
		}
	}
	for _, base := range bases {
		if !f.passes(base) {
			return false
		}
	}
	return true
}

// passes reports whether the powers of base end with 1 in the way that they do modulo a prime.
func (f field) passes(base uint64) bool {
	minusOne := uint64(f) - 1
	twos := bits.TrailingZeros64(minusOne)
	x := f.power(base, minusOne>>twos)
	if x == 1 || x == minusOne {
		return true
	}
	for range twos - 1 {
		x = f.mul(x, x)
		if x == minusOne {
			return true
		}
	}
	return false
}

// A point has a number for each variable.
type point [api.MaxVars]uint64

// point returns numbers, none of them zero, between which there is no relation that a polynomial is likely to have: those of a linear congruential generator that begins with the prime.
func (f field) point() point {
	var x point
	state := uint64(f)
	for v := range x {
		state = state*6364136223846793005 + 1442695040888963407
		x[v] = 1 + state%(uint64(f)-1)
	}
	return x
}

// value returns the value of the monomial m at x.
func (f field) value(m api.Mono, x point) uint64 {
	product := uint64(1)
	for v, exp := range m {
		if exp > 0 {
			product = f.mul(product, f.power(x[v], uint64(exp)))
		}
	}
	return product
}
