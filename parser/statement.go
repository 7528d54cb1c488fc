package parser

import "exactppl/api"

// statementsUntil reads statements, and the keyword or sign behind them.
func (p *parser) statementsUntil(text string) []api.Stmt {
	var statements []api.Stmt
	for !p.accept(text) {
		statements = append(statements, p.statement())
	}
	return statements
}

// body reads statements in braces.
func (p *parser) body() []api.Stmt {
	p.expect("{")
	return p.statementsUntil("}")
}

func (p *parser) statement() api.Stmt {
	var s api.Stmt
	switch {
	case p.accept("if"):
		s = api.Stmt{Kind: api.StIf, Expr: p.expr(), Then: p.body()}
		if p.accept("else") {
			s.Else = p.body()
		}
		return s
	case p.accept("repeat"):
		return api.Stmt{Kind: api.StRepeat, Int: p.number(), Then: p.body()}
	case p.accept("while"):
		return api.Stmt{Kind: api.StWhile, Expr: p.expr(), Then: p.body()}
	case p.accept("observe"):
		s = api.Stmt{Kind: api.StObserve, Expr: p.expr()}
	case p.accept("weight"):
		s = api.Stmt{Kind: api.StWeight, Expr: p.expr()}
	default:
		s = p.change()
	}
	p.expect(";")
	return s
}

// change reads a statement that gives a variable a value, up to its semicolon.
func (p *parser) change() api.Stmt {
	name := p.name()
	if p.accept("~") {
		return api.Stmt{Kind: api.StDraw, Name: name, Draw: p.draw()}
	}
	p.expect(":=")
	if p.isBefore(api.TokenName, "(") {
		function := p.name()
		p.expect("(")
		return api.Stmt{Kind: api.StCall, Name: name, Func: function, Args: listUntil(p, ")", p.expr)}
	}
	return api.Stmt{Kind: api.StAssign, Name: name, Expr: p.expr()}
}

func (p *parser) draw() api.Draw {
	var d api.Draw
	switch {
	case p.accept("posterior"):
		return api.Draw{Kind: api.DrawNested, Name: p.name()}
	case p.opens("flip"):
		d = api.Draw{Kind: api.DrawFlip, Probs: []api.Expr{p.expr()}}
	case p.opens("uniform"):
		d.Kind = api.DrawUniform
		d.Low, d.High = pair(p, p.integer)
	case p.opens("table"):
		d = api.Draw{Kind: api.DrawTable, Low: p.integer()}
		p.expect(";")
		d.Probs = list(p, p.expr)
	case p.opens("binomial"):
		d = api.Draw{Kind: api.DrawBinomial, High: p.number()}
		p.expect(",")
		d.Probs = []api.Expr{p.expr()}
	case p.opens("geometric"):
		d = api.Draw{Kind: api.DrawGeometric, From: p.fraction()}
	case p.opens("interval"):
		d.Kind = api.DrawInterval
		d.From, d.To = pair(p, p.fraction)
	case p.opens("beta"):
		d.Kind = api.DrawBeta
		d.Low, d.High = pair(p, p.number)
	default:
		panic(p.failure(api.ErrSyntax))
	}
	p.expect(")")
	return d
}
