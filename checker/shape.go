package checker

import (
	"slices"

	"exactppl/api"
)

// shape is the shape of an expression. Its kind is TypeBool, TypeInt for every number, TypeReal, TypeTuple or TypeList.
type shape struct {
	kind     int
	elements []shape // of a tuple; one of a list, or none if it fits every list
	capacity int     // of a list
}

// shapeOf returns the shape of a variable of the type t, which need not be valid.
func shapeOf(t api.Type) shape {
	s := shape{kind: t.Kind, capacity: t.Max}
	if t.Kind == api.TypeNat {
		s.kind = api.TypeInt
	}
	for _, element := range t.Elems {
		s.elements = append(s.elements, shapeOf(element))
	}
	return s
}

func (s shape) isNumeric() bool { return s.kind == api.TypeInt || s.kind == api.TypeReal }

// isListOf reports whether s is a list with the element shape of this kind.
func (s shape) isListOf(kind int) bool {
	return s.kind == api.TypeList && len(s.elements) == 1 && s.elements[0].kind == kind
}

// fits reports whether s and u fit each other.
func (s shape) fits(u shape) bool {
	switch {
	case s.kind != u.kind || s.kind == api.TypeReal:
		return false
	case s.kind == api.TypeList && min(len(s.elements), len(u.elements)) == 0:
		return true
	}
	return slices.EqualFunc(s.elements, u.elements, shape.fits)
}

// common returns the common shape of s and u, which fit each other.
func (s shape) common(u shape) shape {
	switch s.kind {
	case api.TypeTuple:
		elements := make([]shape, len(s.elements))
		for i, element := range s.elements {
			elements[i] = element.common(u.elements[i])
		}
		s.elements = elements
	case api.TypeList:
		s.capacity = max(s.capacity, u.capacity)
		if len(s.elements) == 0 {
			s.elements = u.elements
		}
	}
	return s
}

// isAssignable reports whether s is assignable to the type t, which need not be valid.
func (s shape) isAssignable(t api.Type) bool {
	switch t.Kind {
	case api.TypeReal:
		return s.isNumeric()
	case api.TypeTuple:
		return s.kind == api.TypeTuple && slices.EqualFunc(s.elements, t.Elems, shape.isAssignable)
	case api.TypeList:
		return s.capacity <= t.Max && s.fits(shapeOf(t))
	}
	return s.kind == shapeOf(t).kind
}
