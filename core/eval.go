package core

import "exactppl/api"

// Clamp returns the number of the range of the cell c that is nearest to n.
func Clamp(c api.Cell, n int) int {
	switch c.Kind {
	case api.TypeBool:
		return truth(n != 0)
	case api.TypeInt:
		return max(c.Low, min(n, c.High))
	case api.TypeNat:
		return max(0, n)
	}
	return n
}

func truth(holds bool) int {
	if holds {
		return 1
	}
	return 0
}

// Eval returns the value of f where the variable i is state[i]. Its errors concern all parts of f.
func Eval(f api.Form, state []int) (int, api.Errno) {
	if e := evalError(&f, len(state)); e != api.OK {
		return 0, e
	}
	return value(&f, state), api.OK
}

// evalError returns the error of Eval where there are so many variables.
func evalError(f *api.Form, variables int) api.Errno {
	var broken, hasRat, unknown bool
	for level, part := range parts(f, maxLevels+1) {
		if level > maxLevels {
			return api.ErrLimit
		}
		broken = broken || len(part.Args) != arity(part.Op)
		hasRat = hasRat || part.Op == api.FoRat
		unknown = unknown || part.Op == api.FoVar && !isIndex(part.Int, variables)
	}
	switch {
	case broken:
		return api.ErrForm
	case hasRat:
		return api.ErrClass
	case unknown:
		return api.ErrRange
	}
	return api.OK
}

// value returns the value of f, for which Eval has no error. Values stay within MaxArith, so that no result here overflows.
func value(f *api.Form, state []int) int {
	switch f.Op {
	case api.FoInt:
		return limited(f.Int)
	case api.FoVar:
		return limited(state[f.Int])
	case api.FoNot:
		return truth(value(&f.Args[0], state) == 0)
	case api.FoCond:
		if value(&f.Args[0], state) != 0 {
			return value(&f.Args[1], state)
		}
		return value(&f.Args[2], state)
	}
	return operate(f.Op, value(&f.Args[0], state), value(&f.Args[1], state))
}

// limited returns the number from -MaxArith to MaxArith that is nearest to n.
func limited(n int) int { return max(-api.MaxArith, min(n, api.MaxArith)) }

// operate returns the result of an operator with two arguments.
func operate(op, a, b int) int {
	switch op {
	case api.FoAnd:
		return truth(a != 0 && b != 0)
	case api.FoOr:
		return truth(a != 0 || b != 0)
	case api.FoEq:
		return truth(a == b)
	case api.FoLt:
		return truth(a < b)
	case api.FoLe:
		return truth(a <= b)
	case api.FoAdd:
		return limited(a + b)
	case api.FoSub:
		return limited(a - b)
	}
	return limited(a * b)
}
