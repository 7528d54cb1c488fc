package types

import (
	"slices"

	"exactppl/api"
)

// Validate returns ErrLimit if the depth of t is greater than MaxDepth, then the error of the type, and then ErrLimit if its width is greater than MaxWidth.
func Validate(t api.Type) api.Errno {
	if deeper(t, api.MaxDepth) {
		return api.ErrLimit
	}
	if e := fault(t); e != api.OK {
		return e
	}
	if width(t) > api.MaxWidth {
		return api.ErrLimit
	}
	return api.OK
}

// deeper reports whether the depth of t is greater than limit. It looks no further than that, because a list of elements can contain itself.
func deeper(t api.Type, limit int) bool {
	return limit == 0 || slices.ContainsFunc(t.Elems, func(element api.Type) bool {
		return deeper(element, limit-1)
	})
}

// fault returns the error of the type t.
func fault(t api.Type) api.Errno {
	if e := unusedFault(t); e != api.OK {
		return e
	}
	switch t.Kind {
	case api.TypeInt:
		return rangeFault(t)
	case api.TypeTuple:
		return tupleFault(t)
	case api.TypeList:
		return listFault(t)
	}
	return api.OK
}

// unusedFault returns ErrKind if t has none of the six kinds, and ErrForm if a field is not zero that its kind does not use.
func unusedFault(t api.Type) api.Errno {
	empty := api.Type{Kind: t.Kind}
	switch t.Kind {
	case api.TypeInt:
		t.Low, t.High = 0, 0
	case api.TypeList:
		t.Max = 0
		fallthrough
	case api.TypeTuple:
		t.Elems = nil
	case api.TypeBool, api.TypeNat, api.TypeReal:
	default:
		return api.ErrKind
	}
	if !Equal(t, empty) {
		return api.ErrForm
	}
	return api.OK
}

// rangeFault returns ErrRange if the bounds of the integer type t are not in order within MaxInt.
func rangeFault(t api.Type) api.Errno {
	if -api.MaxInt <= t.Low && t.Low <= t.High && t.High <= api.MaxInt {
		return api.OK
	}
	return api.ErrRange
}

// tupleFault returns the error of the tuple type t.
func tupleFault(t api.Type) api.Errno {
	if n := len(t.Elems); n < 2 || n > api.MaxElems {
		return api.ErrRange
	}
	for _, element := range t.Elems {
		if e := fault(element); e != api.OK {
			return e
		}
		if element.Kind == api.TypeNat || element.Kind == api.TypeReal {
			return api.ErrClass
		}
	}
	return api.OK
}

// listFault returns the error of the list type t.
func listFault(t api.Type) api.Errno {
	if t.Max < 1 || t.Max > api.MaxList {
		return api.ErrRange
	}
	if len(t.Elems) != 1 {
		return api.ErrForm
	}
	if e := fault(t.Elems[0]); e != api.OK {
		return e
	}
	if kind := t.Elems[0].Kind; kind != api.TypeBool && kind != api.TypeInt {
		return api.ErrClass
	}
	return api.OK
}

// width returns the number of cells of t, which has no fault.
func width(t api.Type) int {
	switch t.Kind {
	case api.TypeTuple:
		sum := 0
		for _, element := range t.Elems {
			sum += width(element)
		}
		return sum
	case api.TypeList:
		return 1 + t.Max*width(t.Elems[0])
	}
	return 1
}
