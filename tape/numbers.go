package tape

import "exactppl/api"

// numbers is a tape: its first n elements are from 0 to base - 1, the others are 0.
type numbers [api.MaxPower]int

// tapes returns how many tapes of n numbers there are. It returns ErrRange if n is not from 0 to MaxPower, and ErrLimit if there are more than MaxTraces.
func tapes(base, n int) (int, api.Errno) {
	if n < 0 || n > api.MaxPower {
		return 0, api.ErrRange
	}
	number := 1
	for range n {
		if number *= base; number > api.MaxTraces {
			return 0, api.ErrLimit
		}
	}
	return number, api.OK
}

// next returns the tape that follows in ascending order, and whether there is one. It counts in a copy.
func (t numbers) next(base, n int) (numbers, bool) {
	for i := n - 1; i >= 0; i-- {
		if t[i]++; t[i] < base {
			return t, true
		}
		t[i] = 0
	}
	return t, false
}
