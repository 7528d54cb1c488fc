package printer

import (
	"strconv"
	"strings"

	"exactppl/api"
	"exactppl/rational"
)

// writer writes an expression.
type writer struct {
	operators map[int]operator
	text      []byte
}

// textOf returns the text of e.
func textOf(known map[int]operator, e api.Expr) string {
	w := &writer{operators: known}
	w.expr(e, condLevel)
	return string(w.text)
}

func (w *writer) write(s string) { w.text = append(w.text, s...) }

// expr writes e where the grammar permits expressions from this level on.
func (w *writer) expr(e api.Expr, level int) {
	o, operands := w.split(e)
	if o.level < level {
		w.write("(")
	}
	w.write(o.begin)
	for i, operand := range operands {
		if i > 0 {
			w.write(o.between[min(i, 2)-1])
		}
		w.expr(operand, o.levels[min(i, 1)])
	}
	w.write(o.end)
	w.write(content(e))
	if o.level < level {
		w.write(")")
	}
}

// split returns the operator with which e is written, and its operands.
func (w *writer) split(e api.Expr) (operator, []api.Expr) {
	if e.Op == api.ExNot && e.Args[0].Op == api.ExEq {
		return comparison(" != "), e.Args[0].Args
	}
	return w.operators[e.Op], e.Args
}

// content returns what e itself contains beside its operands.
func content(e api.Expr) string {
	switch e.Op {
	case api.ExBool:
		return strconv.FormatBool(e.Int == 1)
	case api.ExInt, api.ExField:
		return strconv.Itoa(e.Int)
	case api.ExRat:
		return ratio(e.Rat)
	}
	return e.Name
}

// ratio returns the text of r with its denominator.
func ratio(r api.Rat) string {
	text := rational.Format(r)
	if !strings.Contains(text, "/") {
		text += "/1"
	}
	return text
}
