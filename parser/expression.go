package parser

import "exactppl/api"

// operator is a binary operator of the language with its sign.
type operator struct {
	sign string
	op   int
}

// node returns the expression with these arguments.
func node(op int, args ...api.Expr) api.Expr { return api.Expr{Op: op, Args: args} }

func (p *parser) expr() api.Expr {
	e := p.or()
	if !p.accept("?") {
		return e
	}
	first := p.expr()
	p.expect(":")
	return node(api.ExCond, e, first, p.expr())
}

func (p *parser) or() api.Expr { return p.chain(p.and, operator{"||", api.ExOr}) }

func (p *parser) and() api.Expr { return p.chain(p.comparison, operator{"&&", api.ExAnd}) }

// comparison reads a cmp of the grammar.
func (p *parser) comparison() api.Expr {
	e := p.sum()
	switch {
	case p.accept("=="):
		return node(api.ExEq, e, p.sum())
	case p.accept("!="):
		return node(api.ExNot, node(api.ExEq, e, p.sum()))
	case p.accept("<"):
		return node(api.ExLt, e, p.sum())
	case p.accept("<="):
		return node(api.ExLe, e, p.sum())
	case p.accept(">"):
		return node(api.ExLt, p.sum(), e)
	case p.accept(">="):
		return node(api.ExLe, p.sum(), e)
	}
	return e
}

func (p *parser) sum() api.Expr {
	return p.chain(p.product, operator{"+", api.ExAdd}, operator{"-", api.ExSub})
}

func (p *parser) product() api.Expr { return p.chain(p.unary, operator{"*", api.ExMul}) }

// chain reads operands with operators of one level between them, which associate to the left.
func (p *parser) chain(operand func() api.Expr, operators ...operator) api.Expr {
	e := operand()
operands:
	for {
		for _, o := range operators {
			if p.accept(o.sign) {
				e = node(o.op, e, operand())
				continue operands
			}
		}
		return e
	}
}

func (p *parser) unary() api.Expr {
	switch {
	case p.accept("!"):
		return node(api.ExNot, p.unary())
	case p.accept("-"):
		return node(api.ExNeg, p.unary())
	}
	return p.postfix()
}

func (p *parser) postfix() api.Expr {
	e := p.primary()
	for {
		switch {
		case p.accept("."):
			e = api.Expr{Op: api.ExField, Int: p.number(), Args: []api.Expr{e}}
		case p.accept("["):
			e = node(api.ExAt, e, p.expr())
			p.expect("]")
		default:
			return e
		}
	}
}

func (p *parser) primary() api.Expr {
	switch p.next().Kind {
	case api.TokenName:
		return api.Expr{Op: api.ExName, Name: p.name()}
	case api.TokenNumber:
		if p.isBefore(api.TokenNumber, "/") {
			return api.Expr{Op: api.ExRat, Rat: p.fraction()}
		}
		return api.Expr{Op: api.ExInt, Int: p.number()}
	}
	switch {
	case p.accept("true"):
		return api.Expr{Op: api.ExBool, Int: 1}
	case p.accept("false"):
		return api.Expr{Op: api.ExBool}
	case p.accept("["):
		return node(api.ExList, listUntil(p, "]", p.expr)...)
	}
	return p.parenthesized()
}

// parenthesized reads a primary that ends with ")".
func (p *parser) parenthesized() api.Expr {
	var e api.Expr
	switch {
	case p.accept("("):
		e = node(api.ExTuple, list(p, p.expr)...)
		if len(e.Args) == 1 {
			e = e.Args[0]
		}
	case p.opens("len"):
		e = node(api.ExLen, p.expr())
	case p.opens("push"):
		first, second := pair(p, p.expr)
		e = node(api.ExPush, first, second)
	default:
		panic(p.failure(api.ErrSyntax))
	}
	p.expect(")")
	return e
}
