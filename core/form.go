package core

import (
	"exactppl/api"
	"exactppl/rational"
)

// form is a form that is compared with another one.
type form api.Form

// equals compares fractions by what they denote.
func (f form) equals(g form) bool {
	if f.Op != g.Op || f.Int != g.Int || !equalRats(f.Rat, g.Rat) || len(f.Args) != len(g.Args) {
		return false
	}
	for i := range f.Args {
		if !form(f.Args[i]).equals(form(g.Args[i])) {
			return false
		}
	}
	return true
}

// equalRats is rational.Equal, which would take long for the many fields that are zero.
func equalRats(a, b api.Rat) bool { return isZeroRat(a) && isZeroRat(b) || rational.Equal(a, b) }

// arity returns the number of arguments of an operator, or -1 if it does not exist.
func arity(op int) int {
	switch op {
	case api.FoInt, api.FoRat, api.FoVar:
		return 0
	case api.FoNot:
		return 1
	case api.FoAnd, api.FoOr, api.FoEq, api.FoLt, api.FoLe, api.FoAdd, api.FoSub, api.FoMul:
		return 2
	case api.FoCond:
		return 3
	}
	return -1
}

// examine reports whether f is real, and whether it is well-formed.
func (s scope) examine(f *api.Form) (isReal, ok bool) {
	if len(f.Args) != arity(f.Op) || hasUnusedNumber(f) {
		return false, false
	}
	hasReal := false
	for i := range f.Args {
		isReal, ok = s.examine(&f.Args[i])
		if !ok {
			return false, false
		}
		hasReal = hasReal || isReal
	}
	switch f.Op {
	case api.FoVar:
		ok = isIndex(f.Int, len(s.cells))
		return ok && s.isReal(f.Int), ok
	case api.FoRat:
		return true, true
	case api.FoLt, api.FoLe:
		return false, true
	case api.FoMul:
		if hasReal && hasVariable(&f.Args[0]) && hasVariable(&f.Args[1]) {
			return false, false
		}
		fallthrough
	case api.FoAdd, api.FoSub:
		return hasReal, true
	}
	return false, !hasReal
}

// hasUnusedNumber reports whether f has a number that is not zero and that its operator does not use.
func hasUnusedNumber(f *api.Form) bool {
	return f.Int != 0 && f.Op != api.FoInt && f.Op != api.FoVar || !isZeroRat(f.Rat) && f.Op != api.FoRat
}

func hasVariable(f *api.Form) bool {
	for range variables(f) {
		return true
	}
	return false
}

// arePlain reports whether the forms of l are well-formed and not real.
func (s scope) arePlain(l []api.Form) bool {
	for i := range l {
		if isReal, ok := s.examine(&l[i]); isReal || !ok {
			return false
		}
	}
	return true
}
