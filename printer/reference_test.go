package printer_test

import (
	"math/big"
	"slices"
	"strconv"
	"strings"

	"exactppl/api"
	"exactppl/parser"
)

// A reference that writes any program, well-formed or not, without looking whether the parts are right. It asks the parser whether an operand needs parentheses. What is not well-formed becomes a text that is no program, or another program.

// wrong is the text of a part that has no text.
const wrong = "$"

// isNot reports whether e is written with != if it is well-formed.
func isNot(e api.Expr) bool {
	return e.Op == api.ExNot && len(e.Args) == 1 && e.Args[0].Op == api.ExEq && len(e.Args[0].Args) == 2
}

// patternOf returns a text of e in which each # is an operand, and the operands.
func patternOf(e api.Expr) (string, []api.Expr) {
	if isNot(e) {
		return "# != #", e.Args[0].Args
	}
	pattern := wrong
	switch e.Op {
	case api.ExBool:
		pattern = []string{"false", "true"}[e.Int&1]
	case api.ExInt:
		pattern = strconv.Itoa(e.Int)
	case api.ExRat:
		pattern = numberOf(false, e.Rat.Num) + "/" + numberOf(false, e.Rat.Den)
	case api.ExName:
		pattern = e.Name
	case api.ExTuple:
		pattern = "(" + strings.Join(slices.Repeat([]string{"#"}, len(e.Args)), ", ") + ")"
	case api.ExList:
		pattern = "[" + strings.Join(slices.Repeat([]string{"#"}, len(e.Args)), ", ") + "]"
	case api.ExField:
		pattern = "#." + strconv.Itoa(e.Int)
	default:
		if e.Op > 0 && e.Op <= api.ExAt {
			pattern = []string{api.ExNot: "!#", api.ExAnd: "# && #", api.ExOr: "# || #", api.ExEq: "# == #", api.ExLt: "# < #", api.ExLe: "# <= #", api.ExNeg: "-#", api.ExAdd: "# + #", api.ExSub: "# - #", api.ExMul: "# * #", api.ExCond: "# ? # : #", api.ExPush: "push(#, #)", api.ExLen: "len(#)", api.ExAt: "#[#]"}[e.Op]
		}
	}
	if strings.Count(pattern, "#") != len(e.Args) {
		return wrong, nil
	}
	return pattern, e.Args
}

// fill returns the pattern with these texts of operands.
func fill(pattern string, operands []string) string {
	for _, s := range operands {
		pattern = strings.Replace(pattern, "#", s, 1)
	}
	return pattern
}

// reference writes expressions. The map tells of each operator, operand and operator of the operand whether parentheses are needed.
type reference struct {
	needed map[[3]int]bool
	loose  func() bool // whether to write something in another way that means the same
}

func newReference() *reference {
	return &reference{map[[3]int]bool{}, func() bool { return false }}
}

// kindOf tells the expressions apart that are written in different ways.
func kindOf(e api.Expr) int {
	if isNot(e) {
		return -1
	}
	return e.Op
}

// sampleOf returns an expression that is written in the same way as e, with names as operands and with as many operands as are needed.
func sampleOf(kind int) api.Expr {
	x := variable("x")
	switch kind {
	case -1:
		return different(x, x)
	case api.ExName:
		return x
	case api.ExRat:
		return half
	case api.ExTuple:
		return node(kind, x, x)
	}
	e := api.Expr{Op: kind}
	for range 4 {
		if s, _ := patternOf(e); s != wrong {
			break
		}
		e.Args = append(e.Args, x)
	}
	return e
}

// needs reports whether operand i of an expression needs parentheses: whether the parser reads it in another way without them.
func (r *reference) needs(kind, i int, operand api.Expr) bool {
	key := [3]int{kind, i, kindOf(operand)}
	needed, found := r.needed[key]
	if !found {
		e, inner := sampleOf(kind), sampleOf(kindOf(operand))
		if kind == api.ExTuple || kind == api.ExList {
			e.Args = slices.Repeat([]api.Expr{variable("x")}, i+2)
		}
		pattern, operands := patternOf(e)
		operands[i] = inner
		texts := slices.Repeat([]string{"x"}, len(operands))
		innerPattern, innerOperands := patternOf(inner)
		texts[i] = fill(innerPattern, slices.Repeat([]string{"x"}, len(innerOperands)))
		p, _, code := parser.Parse("observe " + fill(pattern, texts) + "; return x;")
		needed = code != api.OK || show(p.Body[0].Expr) != show(e)
		r.needed[key] = needed
	}
	return needed
}

// expr returns the text of e.
func (r *reference) expr(e api.Expr) string {
	if r.loose() {
		if s := r.other(e); s != "" {
			return s
		}
	}
	pattern, operands := patternOf(e)
	if pattern == wrong {
		return wrong
	}
	var texts []string
	for i, operand := range operands {
		texts = append(texts, r.operand(kindOf(e), i, operand))
	}
	return fill(pattern, texts)
}

func (r *reference) operand(kind, i int, operand api.Expr) string {
	text := r.expr(operand)
	if text == wrong || !r.needs(kind, i, operand) && !r.loose() {
		return text
	}
	return "(" + text + ")"
}

// other returns a text that the printer does not write, or "".
func (r *reference) other(e api.Expr) string {
	switch {
	case isNot(e):
		return "!(" + r.expr(e.Args[0]) + ")"
	case e.Op == api.ExLt && len(e.Args) == 2:
		return r.operand(e.Op, 1, e.Args[1]) + ">" + r.operand(e.Op, 0, e.Args[0])
	case e.Op == api.ExLe && len(e.Args) == 2:
		return r.operand(e.Op, 1, e.Args[1]) + " >=\n" + r.operand(e.Op, 0, e.Args[0])
	case e.Op == api.ExInt && e.Int >= 0:
		return "0" + strconv.Itoa(e.Int)
	}
	return ""
}

func (r *reference) exprs(l []api.Expr) string { return joined(l, r.expr) }

func joined[T any](l []T, text func(T) string) string {
	texts := make([]string, len(l))
	for i, part := range l {
		texts[i] = text(part)
	}
	return strings.Join(texts, ", ")
}

func numberOf(neg bool, limbs []uint32) string {
	n := new(big.Int)
	for _, limb := range slices.Backward(limbs) {
		n.Or(n.Lsh(n, 32), big.NewInt(int64(limb)))
	}
	if neg {
		return "-" + n.String()
	}
	return n.String()
}

// fractionOf returns the text of r, in lowest terms or not.
func fractionOf(r api.Rat) string {
	num, den := numberOf(r.Neg, r.Num), numberOf(false, r.Den)
	if den == "1" {
		return num
	}
	return num + "/" + den
}

func typeOf(t api.Type) string {
	switch {
	case t.Kind == api.TypeInt:
		return "int[" + strconv.Itoa(t.Low) + ", " + strconv.Itoa(t.High) + "]"
	case t.Kind == api.TypeTuple:
		return "(" + joined(t.Elems, typeOf) + ")"
	case t.Kind == api.TypeList && len(t.Elems) == 1:
		return "list[" + strconv.Itoa(t.Max) + "] " + typeOf(t.Elems[0])
	}
	words := map[int]string{api.TypeBool: "bool", api.TypeNat: "nat", api.TypeReal: "real"}
	if word, found := words[t.Kind]; found {
		return word
	}
	return wrong
}

func declaration(d api.Decl) string { return d.Name + ": " + typeOf(d.Type) }

func (r *reference) draw(d api.Draw) string {
	low, high := strconv.Itoa(d.Low), strconv.Itoa(d.High)
	switch d.Kind {
	case api.DrawFlip:
		return "flip(" + r.exprs(d.Probs) + ")"
	case api.DrawUniform:
		return "uniform(" + low + ", " + high + ")"
	case api.DrawTable:
		return "table(" + low + "; " + r.exprs(d.Probs) + ")"
	case api.DrawBinomial:
		return "binomial(" + high + ", " + r.exprs(d.Probs) + ")"
	case api.DrawGeometric:
		return "geometric(" + fractionOf(d.From) + ")"
	case api.DrawInterval:
		return "interval(" + fractionOf(d.From) + ", " + fractionOf(d.To) + ")"
	case api.DrawBeta:
		return "beta(" + low + ", " + high + ")"
	case api.DrawNested:
		return "posterior " + d.Name
	}
	return wrong
}

// indented returns the lines of a body.
func indented(lines []string) []string {
	var l []string
	for _, line := range lines {
		l = append(l, "  "+line)
	}
	return l
}

// statements returns the lines of statements.
func (r *reference) statements(l []api.Stmt) []string {
	var lines []string
	for _, s := range l {
		lines = append(lines, r.statement(s)...)
	}
	return lines
}

func (r *reference) statement(s api.Stmt) []string {
	body := indented(r.statements(s.Then))
	switch s.Kind {
	case api.StAssign:
		return []string{s.Name + " := " + r.expr(s.Expr) + ";"}
	case api.StDraw:
		return []string{s.Name + " ~ " + r.draw(s.Draw) + ";"}
	case api.StCall:
		return []string{s.Name + " := " + s.Func + "(" + r.exprs(s.Args) + ");"}
	case api.StObserve:
		return []string{"observe " + r.expr(s.Expr) + ";"}
	case api.StWeight:
		return []string{"weight " + r.expr(s.Expr) + ";"}
	case api.StRepeat:
		return slices.Concat([]string{"repeat " + strconv.Itoa(s.Int) + " {"}, body, []string{"}"})
	case api.StWhile:
		return slices.Concat([]string{"while " + r.expr(s.Expr) + " {"}, body, []string{"}"})
	case api.StIf:
		if len(s.Else) > 0 || r.loose() {
			body = slices.Concat(body, []string{"} else {"}, indented(r.statements(s.Else)))
		}
		return slices.Concat([]string{"if " + r.expr(s.Expr) + " {"}, body, []string{"}"})
	}
	return []string{wrong}
}

// block returns the lines of variables, statements and the result.
func (r *reference) block(variables []api.Decl, statements []api.Stmt, result string) []string {
	var lines []string
	for _, d := range variables {
		lines = append(lines, "var "+declaration(d)+";")
	}
	return slices.Concat(lines, r.statements(statements), []string{"return " + result + ";"})
}

func (r *reference) program(p api.Program) string {
	var lines []string
	for _, name := range p.Params {
		lines = append(lines, "param "+name+";")
	}
	for _, f := range p.Funcs {
		lines = append(lines, "func "+f.Name+"("+joined(f.Args, declaration)+") {")
		lines = slices.Concat(lines, indented(r.block(f.Vars, f.Body, f.Result)), []string{"}"})
	}
	for _, q := range p.Queries {
		lines = append(lines, "query "+q.Name+" {")
		lines = slices.Concat(lines, indented(r.block(q.Vars, q.Body, q.Result)), []string{"}"})
	}
	lines = slices.Concat(lines, r.block(p.Vars, p.Body, p.Result))
	return strings.Join(lines, "\n") + "\n"
}
