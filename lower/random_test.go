package lower_test

import (
	"math/rand/v2"
	"slices"
	"strings"
	"testing"

	"exactppl/api"
	"exactppl/checker"
	"exactppl/core"
	"exactppl/lower"
	"exactppl/polynomial"
	"exactppl/rational"
)

// maker makes random programs without errors.
type maker struct {
	*rand.Rand
	params  []string
	funcs   []api.Func // that can be called
	queries []api.Func // that are already made
	vars    []api.Decl // of the block
	inQuery bool
}

func newMaker(seed uint64) *maker { return &maker{Rand: rand.New(rand.NewPCG(seed, seed+1))} }

// often reports in one of n cases true.
func (m *maker) often(n int) bool { return m.IntN(n) == 0 }

func pick[T any](m *maker, l ...T) T { return l[m.IntN(len(l))] }

// many returns from low to high parts.
func many[T any](m *maker, low, high int, part func() T) []T {
	var l []T
	for range low + m.IntN(high-low+1) {
		l = append(l, part())
	}
	return l
}

var (
	boolType = api.Type{Kind: api.TypeBool}
	realType = api.Type{Kind: api.TypeReal}
	numbers  = api.Type{Kind: api.TypeInt, Low: -2, High: 7}
)

func listOf(limit int, element api.Type) api.Type {
	return api.Type{Kind: api.TypeList, Max: limit, Elems: []api.Type{element}}
}

func tupleOf(l ...api.Type) api.Type { return api.Type{Kind: api.TypeTuple, Elems: l} }

func ratio(num, den int) api.Rat {
	r, _ := rational.New(num, den)
	return r
}

func number(n int) api.Expr { return api.Expr{Op: api.ExInt, Int: n} }

func fraction(num, den int) api.Expr { return api.Expr{Op: api.ExRat, Rat: ratio(num, den)} }

// simple returns bool or an integer type.
func (m *maker) simple() api.Type {
	low := pick(m, 0, 1, -3, -1000, 985)
	return pick(m, boolType, api.Type{Kind: api.TypeInt, Low: low, High: low + pick(m, 0, 1, 9, 15)})
}

// finite returns a type for variables in all blocks.
func (m *maker) finite(depth int) api.Type {
	switch kind := m.IntN(6); {
	case kind <= 1 && depth > 0:
		return tupleOf(many(m, 2, 3, func() api.Type { return m.finite(depth - 1) })...)
	case kind <= 3:
		return listOf(1+m.IntN(3), m.simple())
	}
	return m.simple()
}

// isFor reports whether a variable of the type t can stand where the type u is wanted. A list must have room for an element where full is true.
func isFor(t, u api.Type) bool {
	number := func(t api.Type) bool { return t.Kind == api.TypeInt || t.Kind == api.TypeNat }
	switch u.Kind {
	case api.TypeTuple:
		return t.Kind == u.Kind && slices.EqualFunc(t.Elems, u.Elems, isFor)
	case api.TypeList:
		return t.Kind == u.Kind && t.Max <= u.Max && isFor(t.Elems[0], u.Elems[0])
	case api.TypeReal:
		return t.Kind == u.Kind || number(t)
	}
	return t.Kind == u.Kind || number(t) && number(u)
}

// expr returns an expression for the type u. Lists may be shorter than those of the type.
func (m *maker) expr(u api.Type, depth int) api.Expr {
	var l []api.Expr
	for _, d := range m.vars {
		if isFor(d.Type, u) {
			l = append(l, name(d.Name))
		}
	}
	if len(l) > 0 && (depth <= 0 || m.often(3)) {
		return pick(m, l...)
	}
	if depth > 0 && u.Kind != api.TypeReal && m.often(4) {
		if m.often(2) {
			return node(api.ExCond, m.expr(boolType, depth-1), m.expr(u, depth-1), m.expr(u, depth-1))
		}
		return m.field(u, depth-1)
	}
	switch u.Kind {
	case api.TypeBool:
		return m.truth(depth)
	case api.TypeInt, api.TypeNat:
		return m.number(depth)
	case api.TypeReal:
		return m.real(depth)
	case api.TypeTuple:
		return node(api.ExTuple, each(u.Elems, func(u api.Type) api.Expr { return m.expr(u, depth-1) })...)
	}
	return m.list(u, 0, depth)
}

// field returns an element of a tuple.
func (m *maker) field(u api.Type, depth int) api.Expr {
	l := many(m, 2, 3, func() api.Type { return m.simple() })
	i := m.IntN(len(l))
	l[i] = u
	return api.Expr{Op: api.ExField, Int: i, Args: []api.Expr{m.expr(tupleOf(l...), depth)}}
}

// list returns a list for the type u with a capacity of at least least.
func (m *maker) list(u api.Type, least, depth int) api.Expr {
	element := func() api.Expr { return m.expr(u.Elems[0], depth-1) }
	if depth > 0 && m.often(2) {
		if m.often(3) {
			l := []api.Expr{m.list(u, least, depth-1), m.list(u, 0, depth-1)}
			m.Shuffle(2, func(i, j int) { l[i], l[j] = l[j], l[i] })
			return node(api.ExCond, m.expr(boolType, depth-1), l[0], l[1])
		}
		return node(api.ExPush, m.list(u, 1, depth-1), element())
	}
	for _, d := range m.vars {
		if isFor(d.Type, u) && m.often(2) {
			return name(d.Name)
		}
	}
	return node(api.ExList, many(m, least, u.Max, element)...)
}

func (m *maker) truth(depth int) api.Expr {
	if depth <= 0 {
		return api.Expr{Op: api.ExBool, Int: m.IntN(2)}
	}
	inner := func(u api.Type) api.Expr { return m.expr(u, depth-1) }
	switch m.IntN(5) {
	case 0:
		return node(api.ExNot, inner(boolType))
	case 1:
		return node(pick(m, api.ExAnd, api.ExOr), inner(boolType), inner(boolType))
	case 2:
		u := m.finite(2)
		return node(api.ExEq, inner(u), inner(u))
	case 3:
		return node(api.ExAt, m.list(listOf(3, boolType), 1, depth-1), inner(numbers))
	}
	u := pick(m, numbers, numbers, realType)
	return node(pick(m, api.ExLt, api.ExLe), inner(u), inner(u))
}

func (m *maker) number(depth int) api.Expr {
	inner := func() api.Expr { return m.expr(numbers, depth-1) }
	if depth <= 0 || m.often(4) {
		return number(pick(m, 0, 1, 2, 3, 1000000))
	}
	switch m.IntN(4) {
	case 0:
		return node(pick(m, api.ExAdd, api.ExSub, api.ExMul), inner(), inner())
	case 1:
		return node(api.ExNeg, inner())
	case 2:
		return node(api.ExLen, m.list(listOf(1+m.IntN(4), m.simple()), 0, depth-1))
	}
	return node(api.ExAt, m.list(listOf(1+m.IntN(4), numbers), 1, depth-1), inner())
}

func (m *maker) real(depth int) api.Expr {
	if depth <= 0 || m.often(4) {
		return fraction(m.IntN(4), 3)
	}
	inner := func() api.Expr { return m.expr(realType, depth-1) }
	return pick(m, node(pick(m, api.ExAdd, api.ExSub), inner(), inner()), node(api.ExNeg, inner()), node(api.ExMul, inner(), number(3)), node(api.ExMul, fraction(2, 3), inner()))
}

// prob returns a probability.
func (m *maker) prob(depth int) api.Expr {
	switch {
	case depth == 0 && len(m.params) > 0 && !m.inQuery && m.often(2):
		return name(pick(m, m.params...))
	case depth == 0:
		return pick(m, number(0), number(1), fraction(1, 2), fraction(2, 3))
	}
	p, one := m.prob(depth-1), number(1)
	return pick(m, p, node(api.ExSub, one, p), node(api.ExMul, p, m.prob(depth-1)), node(api.ExSub, one, node(api.ExMul, m.prob(depth-1), p)))
}

// resultOf returns the type of the result of a function or a query.
func resultOf(f api.Func) api.Type {
	for _, d := range slices.Concat(f.Args, f.Vars) {
		if d.Name == f.Result {
			return d.Type
		}
	}
	return api.Type{}
}

// draw returns a draw of the variable, or an assignment where there is none.
func (m *maker) draw(d api.Decl) api.Stmt {
	s := api.Stmt{Kind: api.StDraw, Name: d.Name}
	var nested []string
	for _, q := range m.queries {
		if u := resultOf(q); u.Kind == d.Type.Kind || u.Kind == api.TypeInt && d.Type.Kind == api.TypeNat {
			nested = append(nested, q.Name)
		}
	}
	p := m.prob(m.IntN(3))
	low := pick(m, -1000, 0, 3, 985)
	switch {
	case len(nested) > 0 && m.often(3):
		s.Draw = api.Draw{Kind: api.DrawNested, Name: pick(m, nested...)}
	case d.Type.Kind == api.TypeBool:
		s.Draw = api.Draw{Kind: api.DrawFlip, Probs: []api.Expr{p}}
	case d.Type.Kind == api.TypeReal:
		s.Draw = pick(m, api.Draw{Kind: api.DrawInterval, From: ratio(-1, 3), To: ratio(m.IntN(3), 2)}, api.Draw{Kind: api.DrawBeta, Low: 1 + m.IntN(6), High: 1 + m.IntN(6)})
	case d.Type.Kind == api.TypeNat && m.often(3):
		s.Draw = api.Draw{Kind: api.DrawGeometric, From: ratio(m.IntN(3), 3)}
	case d.Type.Kind == api.TypeInt || d.Type.Kind == api.TypeNat:
		s.Draw = pick(m, api.Draw{Kind: api.DrawUniform, Low: low, High: low + pick(m, 0, 3, 15)}, api.Draw{Kind: api.DrawTable, Low: low, Probs: []api.Expr{p, node(api.ExSub, number(1), p)}}, api.Draw{Kind: api.DrawBinomial, High: pick(m, 0, 3, 4), Probs: []api.Expr{p}})
	default:
		return api.Stmt{Kind: api.StAssign, Name: d.Name, Expr: m.expr(d.Type, 2)}
	}
	return s
}

// call returns a call for the variable, or a draw.
func (m *maker) call(d api.Decl) api.Stmt {
	for _, f := range m.funcs {
		if show(resultOf(f)) == show(d.Type) && !m.inQuery {
			return api.Stmt{Kind: api.StCall, Name: d.Name, Func: f.Name, Args: each(f.Args, func(a api.Decl) api.Expr { return m.expr(a.Type, 2) })}
		}
	}
	return m.draw(d)
}

func (m *maker) statements(depth int) []api.Stmt {
	return many(m, 0, 3, func() api.Stmt { return m.statement(depth) })
}

func (m *maker) statement(depth int) api.Stmt {
	d := pick(m, m.vars...)
	kind := 1 + m.IntN(8)
	if (kind == api.StIf || kind == api.StRepeat || kind == api.StWhile) && depth == 0 || kind == api.StWhile && m.inQuery {
		kind = api.StAssign
	}
	switch kind {
	case api.StAssign:
		return api.Stmt{Kind: kind, Name: d.Name, Expr: m.expr(d.Type, pick(m, 0, 1, 2, 3, 4))}
	case api.StDraw:
		return m.draw(d)
	case api.StCall:
		return m.call(d)
	case api.StRepeat:
		return api.Stmt{Kind: kind, Int: pick(m, 0, 1, 2, 3, 8), Then: m.statements(depth - 1)}
	case api.StWeight:
		return api.Stmt{Kind: kind, Expr: m.prob(m.IntN(3))}
	}
	s := api.Stmt{Kind: kind, Expr: m.expr(boolType, m.IntN(4))}
	if kind != api.StObserve {
		s.Then = m.statements(depth - 1)
	}
	if kind == api.StIf {
		s.Else = m.statements(depth - 1)
	}
	return s
}

// block returns a function, a query, or the block of the program with variables of a class.
func (m *maker) block(name string, class int) api.Func {
	f := api.Func{Name: name}
	m.vars = nil
	for _, name := range strings.Fields("u v w x y z")[:1+m.IntN(6)] {
		u := m.finite(2)
		if class != 0 && m.often(3) {
			u = api.Type{Kind: class}
		}
		if m.inQuery && name == "u" {
			u = m.simple()
		}
		m.vars = append(m.vars, api.Decl{Name: name, Type: u})
	}
	f.Vars, f.Result = m.vars, "u"
	if !m.inQuery {
		f.Result = pick(m, m.vars...).Name
	}
	return f
}

// program returns a program. Its functions can call each other.
func (m *maker) program() api.Program {
	m.params, m.funcs, m.queries = []string{"p", "q", "r"}[:m.IntN(4)], nil, nil
	m.inQuery = true
	for _, name := range strings.Fields("k l")[:m.IntN(3)] {
		q := m.block(name, 0)
		q.Body = m.statements(2)
		m.queries = append(m.queries, q)
	}
	m.inQuery = false
	for _, name := range strings.Fields("f g h")[:m.IntN(4)] {
		f := m.block(name, 0)
		n := m.IntN(min(4, len(f.Vars)) + 1)
		f.Args, f.Vars = f.Vars[:n], f.Vars[n:]
		m.funcs = append(m.funcs, f)
	}
	for i, f := range m.funcs {
		m.vars = slices.Concat(f.Args, f.Vars)
		m.funcs[i].Body = m.statements(2)
	}
	b := m.block("", pick(m, 0, api.TypeNat, api.TypeReal))
	body := many(m, 1, 5, func() api.Stmt { return m.statement(3) })
	return copyOf(api.Program{Params: m.params, Funcs: m.funcs, Queries: m.queries, Vars: b.Vars, Body: body, Result: b.Result})
}

// enlarged returns p with the statements of its blocks written many times, or with more variables.
func (m *maker) enlarged(p api.Program) api.Program {
	n := pick(m, 10, 100, 300)
	p.Body = slices.Repeat(p.Body, n)
	for i := range p.Funcs {
		p.Funcs[i].Body = slices.Repeat(p.Funcs[i].Body, n)
	}
	if m.often(3) {
		wide := tupleOf(slices.Repeat([]api.Type{listOf(4, boolType)}, 4)...)
		p.Vars = slices.Clone(p.Vars)
		for _, name := range strings.Fields("a b c d") {
			p.Vars = append(p.Vars, api.Decl{Name: name, Type: wide})
		}
	}
	return copyOf(p)
}

// P12.1 to P12.7: random programs

func TestRandomPrograms(t *testing.T) {
	m := newMaker(121)
	met := map[string]int{} // how often something occurs
	for range 1500 {
		p := m.program()
		if m.often(20) {
			p = m.enlarged(p)
		}
		if _, e := checker.Check(p); e != api.OK { // the variables have too many cells, or there are too many brackets
			met["error"]++
			if got, code := lower.Lower(p); code != e || show(got) != show(api.Module{}) {
				t.Fatalf("Lower(%+v) is %d with %+v, not %d", p, code, got, e)
			}
			continue
		}
		got, e := lower.Lower(p)
		want, within := lowerByReference(p)
		if within != (e == api.OK) || e != api.OK && e != api.ErrLimit || !same(got, want) {
			t.Fatalf("Lower(%+v) is %d with\n%+v, not\n%+v", p, e, got, want)
		}
		if !within {
			met["limit"]++
			continue
		}
		if what := faultOf(got); what != "" {
			t.Fatalf("the module of %+v is not well-formed (%s): %+v", p, what, got)
		}
		if e := core.Validate(got); e != api.OK {
			t.Fatalf("Validate(%+v) is %d", got, e)
		}
		note(met, got.Body)
		for _, f := range got.Procs {
			note(met, f.Body)
		}
		for _, n := range got.Nested {
			note(met, n.Body)
		}
	}
	for _, what := range []string{"error", "limit", "kind 1", "kind 2", "kind 3", "kind 4", "kind 6", "kind 7", "dist 1", "dist 2", "dist 3", "dist 4", "dist 5", "form 1", "form 2", "form 3", "form 4", "form 5", "form 6", "form 7", "form 8", "form 9", "form 10", "form 11", "form 12", "form 13"} {
		if met[what] < 20 {
			t.Errorf("%s occurs %d times", what, met[what])
		}
	}
}

// note counts the kinds of commands, distributions and forms.
func note(met map[string]int, l []api.Cmd) {
	for _, c := range l {
		met["kind "+show(c.Kind)]++
		met["dist "+show(c.Dist.Kind)]++
		noteForms(met, append(slices.Clone(c.Args), c.Form))
		note(met, c.Then)
		note(met, c.Else)
	}
}

func noteForms(met map[string]int, l []api.Form) {
	for _, f := range l {
		met["form "+show(f.Op)]++
		noteForms(met, f.Args)
	}
}

// Polynomials and fractions are in normal form.
func TestNormalForms(t *testing.T) {
	m := newMaker(123)
	for range 1000 {
		p := m.program()
		module, _ := lower.Lower(p)
		bodies := [][]api.Cmd{module.Body}
		for _, f := range module.Procs {
			bodies = append(bodies, f.Body)
		}
		for len(bodies) > 0 {
			l := bodies[0]
			bodies = bodies[1:]
			for _, c := range l {
				bodies = append(bodies, c.Then, c.Else)
				for _, w := range c.Dist.Weights {
					if normal, e := polynomial.Norm(w); e != api.OK || show(normal) != show(w) {
						t.Fatalf("the weight %v is not in normal form", w)
					}
				}
				if d := c.Dist; d.Kind == api.DistInterval && (show(rational.Norm(d.From)) != show(d.From) || show(rational.Norm(d.To)) != show(d.To)) {
					t.Fatalf("the distribution %v is not in normal form", d)
				}
			}
		}
	}
}
