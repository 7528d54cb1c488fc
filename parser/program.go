package parser

import "exactppl/api"

func (p *parser) program() api.Program {
	var program api.Program
	for p.accept("param") {
		program.Params = append(program.Params, p.name())
		p.expect(";")
	}
parts:
	for {
		switch {
		case p.accept("func"):
			program.Funcs = append(program.Funcs, p.function())
		case p.accept("query"):
			program.Queries = append(program.Queries, p.inner(api.Func{Name: p.name()}))
		default:
			break parts
		}
	}
	program.Vars, program.Body, program.Result = p.block()
	p.textOf(api.TokenEnd)
	return program
}

func (p *parser) function() api.Func {
	f := api.Func{Name: p.name()}
	p.expect("(")
	f.Args = listUntil(p, ")", p.declaration)
	return p.inner(f)
}

// inner reads the block of f in braces.
func (p *parser) inner(f api.Func) api.Func {
	p.expect("{")
	f.Vars, f.Body, f.Result = p.block()
	p.expect("}")
	return f
}

// block reads variables, statements and the name of the result.
func (p *parser) block() ([]api.Decl, []api.Stmt, string) {
	var variables []api.Decl
	for p.accept("var") {
		variables = append(variables, p.declaration())
		p.expect(";")
	}
	statements := p.statementsUntil("return")
	result := p.name()
	p.expect(";")
	return variables, statements, result
}

// declaration reads an arg of the grammar.
func (p *parser) declaration() api.Decl {
	name := p.name()
	p.expect(":")
	return api.Decl{Name: name, Type: p.typeOf()}
}

// typeOf reads a type.
func (p *parser) typeOf() api.Type {
	switch {
	case p.accept("bool"):
		return api.Type{Kind: api.TypeBool}
	case p.accept("nat"):
		return api.Type{Kind: api.TypeNat}
	case p.accept("real"):
		return api.Type{Kind: api.TypeReal}
	case p.accept("int"):
		p.expect("[")
		low, high := pair(p, p.integer)
		p.expect("]")
		return api.Type{Kind: api.TypeInt, Low: low, High: high}
	case p.accept("list"):
		p.expect("[")
		limit := p.number()
		p.expect("]")
		return api.Type{Kind: api.TypeList, Max: limit, Elems: []api.Type{p.typeOf()}}
	case p.accept("("):
		first := p.typeOf()
		p.expect(",") // a type in parentheses alone is no tuple
		others := list(p, p.typeOf)
		p.expect(")")
		return api.Type{Kind: api.TypeTuple, Elems: append([]api.Type{first}, others...)}
	}
	panic(p.failure(api.ErrSyntax))
}
