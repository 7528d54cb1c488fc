package core

import "exactppl/api"

// Clamp returns the number of the range of the cell c that is nearest to n.
func Clamp(c api.Cell, n int) int {
	switch c.Kind {
	case api.TypeBool:
		return truth(n != 0)
	case api.TypeInt:
		return max(c.Low, min(n, c.High))
	case api.TypeNat:
		return max(0, n)
	}
	return n
}

func truth(holds bool) int {
	if holds {
		return 1
	}
	return 0
}

// Eval returns the value of f where the variable i is state[i]. Its errors concern all parts of f.
func Eval(f api.Form, state []int) (int, api.Errno) {
	x := evaluation{state: state}
	n := x.value(&f, 1)
	switch {
	case x.isDeep:
		return 0, api.ErrLimit
	case x.isBroken:
		return 0, api.ErrForm
	case x.hasRat:
		return 0, api.ErrClass
	case x.isUnknown:
		return 0, api.ErrRange
	}
	return n, api.OK
}

// evaluation is the evaluation of a form, with what was found in any of its parts.
type evaluation struct {
	state                               []int
	isDeep, isBroken, hasRat, isUnknown bool
}

// value returns the value of f, a part at this level, or 0 if there is none. Values stay within MaxArith, so that no result here overflows.
func (x *evaluation) value(f *api.Form, level int) int {
	if level > maxLevels {
		x.isDeep = true
		return 0
	}
	var args [3]int
	for i := range f.Args {
		n := x.value(&f.Args[i], level+1)
		if i < len(args) {
			args[i] = n
		}
	}
	if len(f.Args) != arity(f.Op) {
		x.isBroken = true
		return 0
	}
	switch f.Op {
	case api.FoInt:
		return limited(f.Int)
	case api.FoRat:
		x.hasRat = true
		return 0
	case api.FoVar:
		return x.variable(f.Int)
	case api.FoNot:
		return truth(args[0] == 0)
	case api.FoCond:
		if args[0] != 0 {
			return args[1]
		}
		return args[2]
	}
	return operate(f.Op, args[0], args[1])
}

// variable returns the value of the variable i, or 0 if there is none.
func (x *evaluation) variable(i int) int {
	if !isIndex(i, len(x.state)) {
		x.isUnknown = true
		return 0
	}
	return limited(x.state[i])
}

// limited returns the number from -MaxArith to MaxArith that is nearest to n.
func limited(n int) int { return max(-api.MaxArith, min(n, api.MaxArith)) }

// operate returns the result of an operator with two arguments.
func operate(op, a, b int) int {
	switch op {
	case api.FoAnd:
		return truth(a != 0 && b != 0)
	case api.FoOr:
		return truth(a != 0 || b != 0)
	case api.FoEq:
		return truth(a == b)
	case api.FoLt:
		return truth(a < b)
	case api.FoLe:
		return truth(a <= b)
	case api.FoAdd:
		return limited(a + b)
	case api.FoSub:
		return limited(a - b)
	}
	return limited(a * b)
}
