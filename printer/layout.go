package printer

import (
	"strconv"
	"strings"

	"exactppl/api"
	"exactppl/rational"
	"exactppl/types"
)

// brackets counts the brackets of texts that follow each other.
type brackets struct {
	open    int
	tooDeep bool // whether more than MaxDepth were open at a place
}

func (b *brackets) count(text string) {
	for i := range len(text) {
		switch text[i] {
		case '(', '[', '{':
			b.open++
			b.tooDeep = b.tooDeep || b.open > api.MaxDepth
		case ')', ']', '}':
			b.open--
		}
	}
}

// layout writes a program line by line.
type layout struct {
	brackets
	operators map[int]operator
	bodies    int // in which the next line stands
	text      []byte
}

// line writes a line of these parts. It ends the text where brackets are too deep, because the blanks in front of the lines of bodies in bodies would need memory without bound.
func (l *layout) line(parts ...string) {
	if l.tooDeep {
		return
	}
	l.text = append(l.text, strings.Repeat("  ", l.bodies)...)
	for _, part := range parts {
		l.count(part)
		l.text = append(l.text, part...)
	}
	l.text = append(l.text, '\n')
}

func (l *layout) program(p api.Program) {
	for _, name := range p.Params {
		l.line("param ", name, ";")
	}
	for _, f := range p.Funcs {
		l.inner(f, "func ", f.Name, "(", join(f.Args, declaration), ")")
	}
	for _, q := range p.Queries {
		l.inner(q, "query ", q.Name)
	}
	l.block(p.Vars, p.Body, p.Result)
}

// inner writes a function or a query that begins with these parts.
func (l *layout) inner(f api.Func, parts ...string) {
	l.line(append(parts, " {")...)
	l.bodies++
	l.block(f.Vars, f.Body, f.Result)
	l.bodies--
	l.line("}")
}

func (l *layout) block(variables []api.Decl, statements []api.Stmt, result string) {
	for _, d := range variables {
		l.line("var ", declaration(d), ";")
	}
	l.statements(statements)
	l.line("return ", result, ";")
}

// body writes statements in the braces of another statement.
func (l *layout) body(statements []api.Stmt) {
	l.bodies++
	l.statements(statements)
	l.bodies--
}

func (l *layout) statements(statements []api.Stmt) {
	for _, s := range statements {
		l.statement(s)
	}
}

func (l *layout) statement(s api.Stmt) {
	switch s.Kind {
	case api.StAssign:
		l.line(s.Name, " := ", l.expr(s.Expr), ";")
	case api.StDraw:
		l.line(s.Name, " ~ ", l.draw(s.Draw), ";")
	case api.StCall:
		l.line(s.Name, " := ", s.Func, "(", join(s.Args, l.expr), ");")
	case api.StIf:
		l.line("if ", l.expr(s.Expr), " {")
		l.body(s.Then)
		if len(s.Else) > 0 {
			l.line("} else {")
			l.body(s.Else)
		}
		l.line("}")
	case api.StRepeat:
		l.line("repeat ", strconv.Itoa(s.Int), " {")
		l.body(s.Then)
		l.line("}")
	case api.StWhile:
		l.line("while ", l.expr(s.Expr), " {")
		l.body(s.Then)
		l.line("}")
	case api.StObserve:
		l.line("observe ", l.expr(s.Expr), ";")
	case api.StWeight:
		l.line("weight ", l.expr(s.Expr), ";")
	}
}

func (l *layout) draw(d api.Draw) string {
	low, high := strconv.Itoa(d.Low), strconv.Itoa(d.High)
	switch d.Kind {
	case api.DrawFlip:
		return "flip(" + join(d.Probs, l.expr) + ")"
	case api.DrawUniform:
		return "uniform(" + low + ", " + high + ")"
	case api.DrawTable:
		return "table(" + low + "; " + join(d.Probs, l.expr) + ")"
	case api.DrawBinomial:
		return "binomial(" + high + ", " + join(d.Probs, l.expr) + ")"
	case api.DrawGeometric:
		return "geometric(" + rational.Format(d.From) + ")"
	case api.DrawInterval:
		return "interval(" + rational.Format(d.From) + ", " + rational.Format(d.To) + ")"
	case api.DrawBeta:
		return "beta(" + low + ", " + high + ")"
	}
	return "posterior " + d.Name
}

func (l *layout) expr(e api.Expr) string { return textOf(l.operators, e) }

func declaration(d api.Decl) string { return d.Name + ": " + string(appendType(nil, d.Type)) }

// appendType writes t behind the text. types.Format accepts fewer types than the grammar.
func appendType(text []byte, t api.Type) []byte {
	switch t.Kind {
	case api.TypeInt:
		return append(text, "int["+strconv.Itoa(t.Low)+", "+strconv.Itoa(t.High)+"]"...)
	case api.TypeTuple:
		text = append(text, '(')
		for i, element := range t.Elems {
			if i > 0 {
				text = append(text, ", "...)
			}
			text = appendType(text, element)
		}
		return append(text, ')')
	case api.TypeList:
		text = append(text, "list["+strconv.Itoa(t.Max)+"] "...)
		return appendType(text, t.Elems[0])
	}
	word, _ := types.Format(t)
	return append(text, word...)
}

// join returns the texts of the parts with commas between them.
func join[T any](parts []T, textOf func(T) string) string {
	var texts []string
	for _, part := range parts {
		texts = append(texts, textOf(part))
	}
	return strings.Join(texts, ", ")
}
