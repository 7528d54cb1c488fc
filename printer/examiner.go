package printer

import (
	"math"
	"slices"

	"exactppl/api"
	"exactppl/parser"
	"exactppl/rational"
)

// maxNumber is the greatest number of a program that is no part of a fraction.
const maxNumber = 1000000

// examiner examines the parts of a program. Its methods break the form if a part that is used is not well-formed, or if a part that is not used is not zero.
type examiner struct {
	operators map[int]operator
	broken    bool
}

func (x *examiner) require(holds bool) { x.broken = x.broken || !holds }

// number examines a number that must be from low to high.
func (x *examiner) number(n int, used bool, low, high int) {
	if !used {
		low, high = 0, 0
	}
	x.require(low <= n && n <= high)
}

// name asks the parser, which knows the names and the keywords.
func (x *examiner) name(s string, used bool) {
	if !used {
		x.require(s == "")
		return
	}
	p, _, e := parser.Parse("return " + s + ";")
	x.require(e == api.OK && p.Result == s)
}

// fraction looks at the lengths first, because it can take very long to find the normal form of a long fraction. A number in normal form has more digits than limbs.
func (x *examiner) fraction(r api.Rat, used bool) {
	switch {
	case !used:
		x.require(!r.Neg && len(r.Num) == 0 && len(r.Den) == 0)
	case len(r.Num) > api.MaxDigits || len(r.Den) > api.MaxDigits:
		x.require(false)
	default:
		normal, e := rational.Parse(rational.Format(r))
		x.require(e == api.OK && r.Neg == normal.Neg && slices.Equal(r.Num, normal.Num) && slices.Equal(r.Den, normal.Den))
	}
}

func (x *examiner) typeOf(t api.Type) {
	is := func(kinds ...int) bool { return slices.Contains(kinds, t.Kind) }
	least, most := 2, math.MaxInt
	if is(api.TypeList) {
		least, most = 1, 1
	}
	x.number(t.Kind, true, api.TypeBool, api.TypeList)
	x.number(t.Low, is(api.TypeInt), -maxNumber, maxNumber)
	x.number(t.High, is(api.TypeInt), -maxNumber, maxNumber)
	x.number(t.Max, is(api.TypeList), 0, maxNumber)
	x.number(len(t.Elems), is(api.TypeTuple, api.TypeList), least, most)
	for _, element := range t.Elems {
		x.typeOf(element)
	}
}

func (x *examiner) expr(e api.Expr, used bool) {
	is := func(ops ...int) bool { return slices.Contains(ops, e.Op) }
	greatest := maxNumber
	if is(api.ExBool) {
		greatest = 1
	}
	x.number(e.Op, used, api.ExBool, api.ExAt)
	x.number(e.Int, is(api.ExBool, api.ExInt, api.ExField), 0, greatest)
	x.fraction(e.Rat, is(api.ExRat))
	x.require(!e.Rat.Neg)
	x.name(e.Name, is(api.ExName))
	o := x.operators[e.Op]
	x.exprs(e.Args, true, o.least, o.most)
}

// exprs examines a list of expressions whose length must be from least to most.
func (x *examiner) exprs(l []api.Expr, used bool, least, most int) {
	x.number(len(l), used, least, most)
	for _, e := range l {
		x.expr(e, true)
	}
}

func (x *examiner) draw(d api.Draw, used bool) {
	is := func(kinds ...int) bool { return slices.Contains(kinds, d.Kind) }
	lowest, most := 0, 1
	if is(api.DrawUniform, api.DrawTable) {
		lowest = -maxNumber
	}
	if is(api.DrawTable) {
		most = math.MaxInt
	}
	x.number(d.Kind, used, api.DrawFlip, api.DrawNested)
	x.number(d.Low, is(api.DrawUniform, api.DrawTable, api.DrawBeta), lowest, maxNumber)
	x.number(d.High, is(api.DrawUniform, api.DrawBinomial, api.DrawBeta), lowest, maxNumber)
	x.fraction(d.From, is(api.DrawGeometric, api.DrawInterval))
	x.fraction(d.To, is(api.DrawInterval))
	x.exprs(d.Probs, is(api.DrawFlip, api.DrawTable, api.DrawBinomial), 1, most)
	x.name(d.Name, is(api.DrawNested))
}

func (x *examiner) statement(s api.Stmt) {
	is := func(kinds ...int) bool { return slices.Contains(kinds, s.Kind) }
	x.number(s.Kind, true, api.StAssign, api.StWeight)
	x.name(s.Name, is(api.StAssign, api.StDraw, api.StCall))
	x.name(s.Func, is(api.StCall))
	x.number(s.Int, is(api.StRepeat), 0, maxNumber)
	x.expr(s.Expr, is(api.StAssign, api.StIf, api.StWhile, api.StObserve, api.StWeight))
	x.exprs(s.Args, is(api.StCall), 0, math.MaxInt)
	x.draw(s.Draw, is(api.StDraw))
	x.statements(s.Then, is(api.StIf, api.StRepeat, api.StWhile))
	x.statements(s.Else, is(api.StIf))
}

func (x *examiner) statements(l []api.Stmt, used bool) {
	x.require(used || len(l) == 0)
	for _, s := range l {
		x.statement(s)
	}
}

func (x *examiner) declarations(l []api.Decl) {
	for _, d := range l {
		x.name(d.Name, true)
		x.typeOf(d.Type)
	}
}

func (x *examiner) block(variables []api.Decl, statements []api.Stmt, result string) {
	x.declarations(variables)
	x.statements(statements, true)
	x.name(result, true)
}

func (x *examiner) function(g api.Func) {
	x.name(g.Name, true)
	x.declarations(g.Args)
	x.block(g.Vars, g.Body, g.Result)
}

func (x *examiner) program(p api.Program) {
	for _, name := range p.Params {
		x.name(name, true)
	}
	for _, g := range p.Funcs {
		x.function(g)
	}
	for _, q := range p.Queries {
		x.require(len(q.Args) == 0)
		x.function(q)
	}
	x.block(p.Vars, p.Body, p.Result)
}
