package natural

import "math/bits"

// GCD returns the greatest common divisor of a and b; it is a if b is zero, and b if a is zero.
func GCD(a, b []uint32) []uint32 {
	a, b = strip(a), strip(b)
	if Cmp(a, b) < 0 {
		a, b = b, a
	}
	if len(b) > wordLimbs {
		a, b = reduce(Trim(a), Trim(b))
	}
	if len(b) == 0 {
		return Trim(a)
	}
	if len(a) > wordLimbs {
		a = remainder(a, b)
	}
	return fromWord(gcdWords(toWord(b), toWord(a)))
}

// reduce returns two numbers with the same greatest common divisor as a and b, of which the second one fits into a word. The first one is not less than the second one, before and after; a and b are changed.
func reduce(a, b []uint32) ([]uint32, []uint32) {
	for len(b) > wordLimbs {
		s := findStep(leadingBits(a, b))
		if s == noStep {
			a, b = b, remainder(a, b)
			continue
		}
		s.apply(a, b)
		a, b = strip(a[:len(b)]), strip(b)
	}
	return a, b
}

// remainder returns the remainder of a by b, which is not zero.
func remainder(a, b []uint32) []uint32 {
	_, r, _ := DivMod(a, b)
	return r
}

// gcdWords returns the greatest common divisor of two words.
func gcdWords(a, b uint64) uint64 {
	for b != 0 {
		a, b = b, a%b
	}
	return a
}

// A step does several divisions of Euclid's algorithm at once (Lehmer's method): it replaces a and b by u0 a + v0 b and u1 a + v1 b. Its determinant is 1 or -1, so that it keeps the common divisors. Its entries are less than 2^31 in absolute value.
type step struct{ u0, v0, u1, v1 int64 }

// noStep leaves both numbers as they are.
var noStep = step{1, 0, 0, 1}

// windowBits is the number of leading bits from which a step is found: half as many bits suffice for its entries.
const windowBits = 62

// leadingBits returns the first bits of a, and the bits of b in the same places; a has at least three limbs, and b is not greater than a.
func leadingBits(a, b []uint32) (int64, int64) {
	shift := bits.LeadingZeros32(a[len(a)-1])
	return window(a, len(a), shift), window(b, len(a), shift)
}

// window returns the windowBits bits of a that begin shift bits below the top of a number of n limbs.
func window(a []uint32, n, shift int) int64 {
	var top [3]uint64
	for i := range top {
		if place := n - 1 - i; place < len(a) {
			top[i] = uint64(a[place])
		}
	}
	word := (top[0]<<limbBits|top[1])<<shift | top[2]>>(limbBits-shift)
	return int64(word >> (64 - windowBits))
}

// findStep returns a step for two numbers with the leading bits a and b, a not less than b: the divisions of a by b go on as long as what is cut off cannot make the second number negative or greater than the first one.
func findStep(a, b int64) step {
	s := noStep
	for b != 0 {
		q, rest := a/b, a%b
		next := step{s.u1, s.v1, s.u0 - q*s.u1, s.v0 - q*s.v1}
		// v0 and v1 have different signs, and u0 and u1 are not greater: the cut changes the rest by less than |v1|, and the difference by less than |v0 - v1|.
		if rest < abs(next.v1) || b-rest < abs(next.v0-next.v1) {
			break
		}
		a, b, s = b, rest, next
	}
	return s
}

func abs(n int64) int64 { return max(n, -n) }

// apply replaces a and b by what s leads to. It changes only as many limbs of a as b has, since both results are at most b.
func (s step) apply(a, b []uint32) {
	first, second := int64(0), int64(0)
	for i := range b {
		x, y := int64(a[i]), int64(b[i])
		first += s.u0*x + s.v0*y
		second += s.u1*x + s.v1*y
		a[i], b[i] = uint32(first), uint32(second)
		first >>= limbBits
		second >>= limbBits
	}
}
