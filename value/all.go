package value

import (
	"iter"
	"slices"

	"exactppl/api"
	"exactppl/types"
)

// maxValues is the greatest number of values that All returns.
const maxValues = 4096

// All returns all values of t in ascending order by Compare. It returns ErrClass for the natural numbers, and ErrLimit if there are more than 4096 values.
func All(t api.Type) ([]api.Value, api.Errno) {
	if e := typeFault(t); e != api.OK {
		return nil, e
	}
	if t.Kind == api.TypeNat {
		return nil, api.ErrClass
	}
	if n, e := types.Size(t); e != api.OK || n > maxValues {
		return nil, api.ErrLimit
	}
	return slices.Collect(values(t)), api.OK
}

// values enumerates the values of t, which is valid and finite, in ascending order. No two of them share memory.
func values(t api.Type) iter.Seq[api.Value] {
	switch t.Kind {
	case api.TypeTuple:
		return products(t.Elems)
	case api.TypeList:
		return lists(t.Elems, t.Max)
	}
	return numbers(bounds(t))
}

// numbers enumerates the numbers from low to high.
func numbers(low, high int) iter.Seq[api.Value] {
	return func(yield func(api.Value) bool) {
		for n := low; n <= high; n++ {
			if !yield(api.Value{Int: n}) {
				return
			}
		}
	}
}

// products enumerates the values that have one element of each type.
func products(l []api.Type) iter.Seq[api.Value] {
	return func(yield func(api.Value) bool) {
		if len(l) == 0 {
			yield(api.Value{})
			return
		}
		last := len(l) - 1
		for front := range products(l[:last]) {
			for element := range values(l[last]) {
				v := copyOf(front)
				v.Elems = append(v.Elems, element)
				if !yield(v) {
					return
				}
			}
		}
	}
}

// lists enumerates the lists of at most limit elements, whose type is the only one of l. The first cell of a list is its length, so that shorter lists come first.
func lists(l []api.Type, limit int) iter.Seq[api.Value] {
	return func(yield func(api.Value) bool) {
		for length := range limit + 1 {
			for v := range products(slices.Repeat(l, length)) {
				if !yield(v) {
					return
				}
			}
		}
	}
}

// copyOf returns v in new memory.
func copyOf(v api.Value) api.Value {
	var elements []api.Value
	for _, element := range v.Elems {
		elements = append(elements, copyOf(element))
	}
	v.Elems = elements
	return v
}
