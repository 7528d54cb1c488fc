package natural

import (
	"math/bits"
	"slices"

	"exactppl/api"
)

// DivMod returns the quotient and the remainder of a by b, or ErrDivide if b is zero.
func DivMod(a, b []uint32) (q, r []uint32, e api.Errno) {
	a, b = strip(a), strip(b)
	switch {
	case len(b) == 0:
		return nil, nil, api.ErrDivide
	case len(a) < len(b):
		return nil, Trim(a), api.OK
	case len(b) == 1:
		q = slices.Clone(a)
		rest := divideByLimb(q, b[0])
		return strip(q), fromWord(uint64(rest)), api.OK
	}
	q, r = divideLong(a, b)
	return q, r, api.OK
}

// divideByLimb replaces a by its quotient by d, which is not zero, and returns the remainder. The quotient may have a zero limb at the end.
func divideByLimb(a []uint32, d uint32) uint32 {
	rest := uint32(0)
	for i := len(a) - 1; i >= 0; i-- {
		a[i], rest = bits.Div32(rest, a[i], d)
	}
	return rest
}

// divideLong divides a by b, which has at least two limbs and no more than a (algorithm D of Knuth).
func divideLong(a, b []uint32) (q, r []uint32) {
	n := len(b)
	// With the top bit of the divisor set, a limb of the quotient can be guessed from the first limbs alone.
	shift := bits.LeadingZeros32(b[n-1])
	divisor := shiftLeft(b, shift)[:n]
	rest := shiftLeft(a, shift)
	q = make([]uint32, len(a)-n+1)
	for i := len(q) - 1; i >= 0; i-- {
		window := rest[i : i+n+1]
		guess := guessLimb(window, divisor)
		if subtractMultiple(window, divisor, guess) {
			guess--
			addBack(window, divisor)
		}
		q[i] = guess
	}
	return strip(q), strip(shiftRight(rest[:n], shift))
}

// shiftLeft returns a times 2^shift, with one limb more than a; shift is less than limbBits.
func shiftLeft(a []uint32, shift int) []uint32 {
	shifted := make([]uint32, len(a)+1)
	for i, limb := range a {
		wide := uint64(limb) << shift
		shifted[i] |= uint32(wide)
		shifted[i+1] = uint32(wide >> limbBits)
	}
	return shifted
}

// shiftRight returns a divided by 2^shift, with as many limbs as a; shift is less than limbBits.
func shiftRight(a []uint32, shift int) []uint32 {
	shifted := make([]uint32, len(a))
	above := uint32(0)
	for i := len(a) - 1; i >= 0; i-- {
		shifted[i] = uint32((uint64(above)<<limbBits | uint64(a[i])) >> shift)
		above = a[i]
	}
	return shifted
}

// guessLimb returns the quotient of window by divisor, or one more than it. The top bit of the divisor is set, and the window, which has one limb more, is less than the divisor times 2^32.
func guessLimb(window, divisor []uint32) uint32 {
	n := len(divisor)
	first, second := uint64(divisor[n-1]), uint64(divisor[n-2])
	top := uint64(window[n])<<limbBits | uint64(window[n-1])
	guess, rest := top/first, top%first
	// The second limb of the divisor corrects most guesses; a rest of more than one limb needs no correction.
	for rest>>limbBits == 0 && (guess>>limbBits != 0 || guess*second > rest<<limbBits|uint64(window[n-2])) {
		guess--
		rest += first
	}
	return uint32(guess)
}

// subtractMultiple subtracts times divisor from window, which has one limb more, and returns whether the difference is negative; then 2^32 to the number of limbs of window is added to it.
func subtractMultiple(window, divisor []uint32, times uint32) bool {
	carry, borrow := uint32(0), uint32(0)
	for i, limb := range divisor {
		var low uint32
		carry, low = multiplyAdd(limb, times, 0, carry)
		window[i], borrow = bits.Sub32(window[i], low, borrow)
	}
	n := len(divisor)
	window[n], borrow = bits.Sub32(window[n], carry, borrow)
	return borrow != 0
}

// addBack adds divisor to window, which has one limb more, and drops the carry out of it.
func addBack(window, divisor []uint32) {
	carry := uint32(0)
	for i, limb := range divisor {
		window[i], carry = bits.Add32(window[i], limb, carry)
	}
	window[len(divisor)] += carry
}
