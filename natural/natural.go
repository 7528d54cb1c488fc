// Package natural is layer 1: natural numbers of any size, as lists of limbs of 32 bits, the least significant limb first.
//
// Arguments may have zero limbs at the end, results have none. The functions that are not exported take and return numbers without zero limbs at the end, unless their comments say otherwise.
package natural

import (
	"math"
	"math/bits"

	"exactppl/api"
)

const (
	limbBits  = 32
	wordLimbs = 2 // limbs of a word of 64 bits
)

// strip returns the part of a without the zero limbs at its end, in the memory of a.
func strip(a []uint32) []uint32 {
	n := len(a)
	for n > 0 && a[n-1] == 0 {
		n--
	}
	if n == 0 {
		return nil
	}
	return a[:n]
}

// fromWord returns w as a number.
func fromWord(w uint64) []uint32 {
	return strip([]uint32{uint32(w), uint32(w >> limbBits)})
}

// toWord returns a, which has at most wordLimbs limbs, as a word.
func toWord(a []uint32) uint64 {
	w := uint64(0)
	for i, limb := range a {
		w |= uint64(limb) << (limbBits * i)
	}
	return w
}

// Trim returns a without zero limbs at the end.
func Trim(a []uint32) []uint32 {
	return append([]uint32(nil), strip(a)...)
}

// FromInt returns n as a number, or ErrRange if it is negative.
func FromInt(n int) ([]uint32, api.Errno) {
	if n < 0 {
		return nil, api.ErrRange
	}
	return fromWord(uint64(n)), api.OK
}

// Int returns a as an int, or ErrRange if it is greater than every int.
func Int(a []uint32) (int, api.Errno) {
	a = strip(a)
	if len(a) > wordLimbs || toWord(a) > math.MaxInt64 {
		return 0, api.ErrRange
	}
	return int(toWord(a)), api.OK
}

// Cmp returns -1, 0 or 1 if a is less than, equal to or greater than b.
func Cmp(a, b []uint32) int {
	a, b = strip(a), strip(b)
	switch {
	case len(a) < len(b):
		return -1
	case len(a) > len(b):
		return 1
	}
	for i := len(a) - 1; i >= 0; i-- {
		switch {
		case a[i] < b[i]:
			return -1
		case a[i] > b[i]:
			return 1
		}
	}
	return 0
}

// Add returns a + b.
func Add(a, b []uint32) []uint32 {
	a, b = strip(a), strip(b)
	if len(a) < len(b) {
		a, b = b, a
	}
	sum := make([]uint32, len(a)+1)
	carry := uint32(0)
	for i, limb := range a {
		other := uint32(0)
		if i < len(b) {
			other = b[i]
		}
		sum[i], carry = bits.Add32(limb, other, carry)
	}
	sum[len(a)] = carry
	return strip(sum)
}

// Sub returns a - b, or ErrRange if a is less than b.
func Sub(a, b []uint32) ([]uint32, api.Errno) {
	if Cmp(a, b) < 0 {
		return nil, api.ErrRange
	}
	b = strip(b)
	difference := Trim(a)
	borrow := uint32(0)
	for i := range difference {
		other := uint32(0)
		if i < len(b) {
			other = b[i]
		}
		difference[i], borrow = bits.Sub32(difference[i], other, borrow)
	}
	return strip(difference), api.OK
}

// multiplyAdd returns x y + add + carry, which always fits into two limbs.
func multiplyAdd(x, y, add, carry uint32) (high, low uint32) {
	high, low = bits.Mul32(x, y)
	low, over := bits.Add32(low, add, 0)
	high += over
	low, over = bits.Add32(low, carry, 0)
	return high + over, low
}

// Mul returns a b.
func Mul(a, b []uint32) []uint32 {
	a, b = strip(a), strip(b)
	product := make([]uint32, len(a)+len(b))
	for i, x := range a {
		carry := uint32(0)
		for j, y := range b {
			carry, product[i+j] = multiplyAdd(x, y, product[i+j], carry)
		}
		product[i+len(b)] = carry
	}
	return strip(product)
}

// Pow returns a to the power n, or ErrRange if n is not from 0 to MaxPower.
func Pow(a []uint32, n int) ([]uint32, api.Errno) {
	if n < 0 || n > api.MaxPower {
		return nil, api.ErrRange
	}
	power := []uint32{1}
	for bit := bits.Len(uint(n)) - 1; bit >= 0; bit-- {
		power = Mul(power, power)
		if n>>bit&1 == 1 {
			power = Mul(power, a)
		}
	}
	return power, api.OK
}
