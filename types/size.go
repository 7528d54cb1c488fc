package types

import "exactppl/api"

// huge stands for every number that is greater than MaxArith.
const huge = api.MaxArith + 1

// Size returns the number of values of t. It returns ErrClass if t is the natural or the real numbers, and ErrLimit if the number is greater than MaxArith.
func Size(t api.Type) (int, api.Errno) {
	class, e := Class(t)
	if e != api.OK {
		return 0, e
	}
	if class != api.ClassFinite {
		return 0, api.ErrClass
	}
	n := size(t)
	if n == huge {
		return 0, api.ErrLimit
	}
	return n, api.OK
}

// size returns the number of values of t, which is valid and finite, or huge.
func size(t api.Type) int {
	switch t.Kind {
	case api.TypeTuple:
		n := 1
		for _, element := range t.Elems {
			n = product(n, size(element))
		}
		return n
	case api.TypeList:
		return listSize(size(t.Elems[0]), t.Max)
	case api.TypeBool:
		t.High = 1
		fallthrough
	default:
		return t.High - t.Low + 1
	}
}

// listSize returns the number of lists of at most limit elements that have n values each, or huge.
func listSize(n, limit int) int {
	lists := 1
	for range limit {
		// A list is empty, or an element and a list of one element less.
		lists = min(1+product(n, lists), huge)
	}
	return lists
}

// product returns a b or huge. Neither a nor b is greater than huge, so that 64 bits hold a b.
func product(a, b int) int { return int(min(uint64(a)*uint64(b), huge)) }
