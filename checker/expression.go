package checker

import (
	"slices"

	"exactppl/api"
)

// operand is what is known of an expression.
type operand struct {
	shape
	named bool // whether a name occurs in it
}

func (o operand) isBool() bool   { return o.kind == api.TypeBool }
func (o operand) isNumber() bool { return o.kind == api.TypeInt }
func (o operand) isReal() bool   { return o.kind == api.TypeReal }

// all reports whether the condition holds for each operand.
func all(l []operand, holds func(operand) bool) bool {
	return !slices.ContainsFunc(l, func(o operand) bool { return !holds(o) })
}

// expr examines an expression of the block.
func (c *checker) expr(e api.Expr) operand {
	named := e.Op == api.ExName
	var l []operand
	for _, arg := range e.Args {
		o := c.expr(arg)
		named = named || o.named
		l = append(l, o)
	}
	return operand{c.shape(e, l), named}
}

// shape returns the shape of e, given its operands.
func (c *checker) shape(e api.Expr, l []operand) shape {
	switch e.Op {
	case api.ExName:
		return shapeOf(c.typeOf(e.Name))
	case api.ExRat:
		return shape{kind: api.TypeReal}
	case api.ExInt, api.ExNeg, api.ExAdd, api.ExSub, api.ExMul:
		return number(e.Op, l)
	case api.ExCond:
		requireType(l[0].isBool() && l[1].fits(l[2].shape))
		return l[1].common(l[2].shape)
	case api.ExTuple:
		return tuple(l)
	case api.ExField:
		requireType(l[0].kind == api.TypeTuple && e.Int < len(l[0].elements))
		return l[0].elements[e.Int]
	case api.ExList:
		return list(l)
	case api.ExPush:
		requireType((l[1].isBool() || l[1].isNumber()) && l[0].isListOf(l[1].kind))
		return l[0].shape
	case api.ExLen:
		requireType(l[0].kind == api.TypeList)
		return shape{kind: api.TypeInt}
	case api.ExAt:
		requireType(l[0].kind == api.TypeList && len(l[0].elements) == 1 && l[1].isNumber())
		return l[0].elements[0]
	}
	examineTruth(e.Op, l)
	return shape{kind: api.TypeBool}
}

// number returns the shape of a number, or of an operation with numbers.
func number(op int, l []operand) shape {
	requireType(all(l, func(o operand) bool { return o.isNumeric() }))
	if !slices.ContainsFunc(l, operand.isReal) {
		return shape{kind: api.TypeInt}
	}
	requireType(op != api.ExMul || !l[0].named || !l[1].named)
	return shape{kind: api.TypeReal}
}

// tuple returns the shape of a tuple with these elements.
func tuple(l []operand) shape {
	s := shape{kind: api.TypeTuple}
	for _, o := range l {
		requireType(!o.isReal())
		s.elements = append(s.elements, o.shape)
	}
	return s
}

// list returns the shape of a list with these elements.
func list(l []operand) shape {
	requireType(len(l) <= api.MaxList && (all(l, operand.isNumber) || all(l, operand.isBool)))
	s := shape{kind: api.TypeList, capacity: len(l)}
	if len(l) > 0 {
		s.elements = []shape{l[0].shape}
	}
	return s
}

// examineTruth examines the operands of an operator whose shape is bool.
func examineTruth(op int, l []operand) {
	switch op {
	case api.ExEq:
		numeric := l[0].isNumeric() && l[1].isNumeric()
		require(!numeric || l[0].isNumber() && l[1].isNumber(), api.ErrMeasure)
		requireType(l[0].fits(l[1].shape))
	case api.ExLt, api.ExLe:
		requireType(l[0].isNumeric() && l[1].isNumeric())
	default:
		requireType(all(l, operand.isBool))
	}
}
