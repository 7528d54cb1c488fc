package printer

import (
	"math"

	"exactppl/api"
)

// The levels of the grammar: its rules for expressions, from the one for all of them to the one for those that never need parentheses.
const (
	condLevel = iota
	orLevel
	andLevel
	cmpLevel
	sumLevel
	productLevel
	unaryLevel
	postfixLevel
	primaryLevel
)

// operator tells how the expressions with an operator are written.
type operator struct {
	level       int       // of the expressions
	least, most int       // how many operands they have
	levels      [2]int    // that the first operand and the others must have to stand without parentheses
	between     [2]string // what stands in front of the second operand and in front of the others behind it
	begin, end  string    // what stands around the operands
}

func operators() map[int]operator {
	return map[int]operator{
		api.ExBool:  {level: primaryLevel},
		api.ExInt:   {level: primaryLevel},
		api.ExRat:   {level: primaryLevel},
		api.ExName:  {level: primaryLevel},
		api.ExNot:   prefix("!"),
		api.ExAnd:   chain(andLevel, " && "),
		api.ExOr:    chain(orLevel, " || "),
		api.ExEq:    comparison(" == "),
		api.ExLt:    comparison(" < "),
		api.ExLe:    comparison(" <= "),
		api.ExNeg:   prefix("-"),
		api.ExAdd:   chain(sumLevel, " + "),
		api.ExSub:   chain(sumLevel, " - "),
		api.ExMul:   chain(productLevel, " * "),
		api.ExCond:  {level: condLevel, least: 3, most: 3, levels: [2]int{orLevel, condLevel}, between: [2]string{" ? ", " : "}},
		api.ExTuple: series("(", 2, math.MaxInt, ")"),
		api.ExField: {level: postfixLevel, least: 1, most: 1, levels: [2]int{postfixLevel}, end: "."},
		api.ExList:  series("[", 0, math.MaxInt, "]"),
		api.ExPush:  series("push(", 2, 2, ")"),
		api.ExLen:   series("len(", 1, 1, ")"),
		api.ExAt:    {level: postfixLevel, least: 2, most: 2, levels: [2]int{postfixLevel, condLevel}, between: [2]string{"["}, end: "]"},
	}
}

// prefix returns an operator in front of its operand.
func prefix(sign string) operator {
	return operator{level: unaryLevel, least: 1, most: 1, levels: [2]int{unaryLevel}, begin: sign}
}

// chain returns a binary operator that associates to the left.
func chain(level int, sign string) operator {
	return operator{level: level, least: 2, most: 2, levels: [2]int{level, level + 1}, between: [2]string{sign}}
}

// comparison returns a binary operator that does not associate.
func comparison(sign string) operator {
	return operator{level: cmpLevel, least: 2, most: 2, levels: [2]int{sumLevel, sumLevel}, between: [2]string{sign}}
}

// series returns an operator with brackets around its operands and commas between them.
func series(begin string, least, most int, end string) operator {
	return operator{level: primaryLevel, least: least, most: most, levels: [2]int{condLevel, condLevel}, between: [2]string{", ", ", "}, begin: begin, end: end}
}
