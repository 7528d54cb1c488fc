package nested_test

import (
	"math/rand/v2"
	"slices"
	"testing"

	"exactppl/api"
	"exactppl/core"
	"exactppl/nested"
	"exactppl/polynomial"
)

// maker makes random modules with nested ones.
type maker struct {
	*rand.Rand
	params   int
	cells    []api.Cell
	procs    []api.Proc // that can be called
	queries  int        // how many nested modules can be drawn from
	draws    int        // how many more draws there may be
	isNested bool
}

func newMaker(seed uint64) *maker { return &maker{Rand: rand.New(rand.NewPCG(seed, seed+1))} }

// often reports in one of n cases true.
func (m *maker) often(n int) bool { return m.IntN(n) == 0 }

func pick[T any](m *maker, l ...T) T { return l[m.IntN(len(l))] }

// many returns from low to high parts.
func many[T any](m *maker, low, high int, part func() T) []T {
	var l []T
	for range low + m.IntN(high-low+1) {
		l = append(l, part())
	}
	return l
}

// ratio returns num / den, often not in lowest terms.
func (m *maker) ratio(num, den int) api.Rat {
	k := 1 + m.IntN(3)
	r := api.Rat{Neg: num < 0, Num: []uint32{uint32(k * max(num, -num))}, Den: []uint32{uint32(k * den)}}
	if m.often(3) {
		r.Num, r.Den = append(r.Num, 0), append(r.Den, 0, 0)
	}
	return r
}

// constant returns a constant polynomial, often with terms whose sum is zero.
func (m *maker) constant(num, den int) api.Poly {
	l := api.Poly{{Coef: m.ratio(num, den)}}
	if num == 0 && m.often(2) {
		l = nil
	}
	for m.often(4) {
		var mono api.Mono
		mono[m.IntN(api.MaxVars)] = pick(m, 0, 1, 17, api.MaxExp)
		n := 1 + m.IntN(4)
		l = append(l, api.Term{Mono: mono, Coef: m.ratio(n, 3)}, api.Term{Mono: mono, Coef: m.ratio(-n, 3)})
	}
	m.Shuffle(len(l), func(i, j int) { l[i], l[j] = l[j], l[i] })
	return l
}

// weights returns n weights whose sum is 1, often with parameters.
func (m *maker) weights(n int) []api.Poly {
	parts := many(m, n, n, func() int { return m.IntN(3) })
	parts[m.IntN(n)]++
	whole := 0
	for _, part := range parts {
		whole += part
	}
	l := each(parts, func(part int) api.Poly { return m.constant(part, whole) })
	if m.params > 0 && n > 1 && m.often(2) {
		t := api.Term{Coef: m.ratio(1+m.IntN(3), 2)}
		t.Mono[m.IntN(m.params)] = pick(m, 1, 2, api.MaxWeight)
		l[0], _ = polynomial.Add(l[0], api.Poly{t})
		l[1], _ = polynomial.Sub(l[1], api.Poly{t})
	}
	return l
}

// dist returns a distribution for a cell.
func (m *maker) dist(c api.Cell) api.Dist {
	switch {
	case c == real && m.often(2):
		return api.Dist{Kind: api.DistInterval, From: m.ratio(-m.IntN(3), 2), To: m.ratio(1+m.IntN(5), 7)}
	case c == real:
		return api.Dist{Kind: api.DistBeta, Low: 1 + m.IntN(api.MaxBeta), High: 1 + m.IntN(api.MaxBeta)}
	case c == natural && m.often(2):
		return api.Dist{Kind: api.DistGeometric, From: m.ratio(m.IntN(7), 7)}
	case m.queries > 0 && m.often(2):
		return api.Dist{Kind: api.DistNested, Low: m.IntN(m.queries)}
	}
	n := pick(m, 1, 2, 2, 3, 4, 6)
	low := pick(m, 0, c.Low, c.Low, c.Low, c.Low-1, c.Low+2, api.MaxInt)
	return api.Dist{Kind: api.DistTable, Low: near(-api.MaxInt, low, api.MaxInt-n+1), Weights: m.weights(n)}
}

// targets returns n different cells that are not real, or fewer.
func (m *maker) targets(n int) []int {
	l := slices.DeleteFunc(m.Perm(len(m.cells)), func(i int) bool { return m.cells[i] == real })
	return l[:min(n, len(l))]
}

// form returns a form that is not real.
func (m *maker) form(depth int) api.Form {
	if depth <= 0 || m.often(4) {
		l := m.targets(1)
		if len(l) == 0 || m.often(4) {
			return num(pick(m, 0, 1, -1, 2, 1000))
		}
		return variable(l[0])
	}
	inner := func() api.Form { return m.form(depth - 1) }
	switch m.IntN(7) {
	case 0:
		return not(inner())
	case 1:
		return node(api.FoCond, inner(), inner(), inner())
	case 2:
		if i := slices.Index(m.cells, real); i >= 0 {
			return node(pick(m, api.FoLt, api.FoLe), variable(i), api.Form{Op: api.FoRat, Rat: m.ratio(1, 1+m.IntN(5))})
		}
	}
	return node(pick(m, api.FoAnd, api.FoOr, api.FoEq, api.FoLt, api.FoLe, api.FoAdd, api.FoSub, api.FoMul), inner(), inner())
}

func (m *maker) commands(most, depth int) []api.Cmd {
	return many(m, 0, most, func() api.Cmd { return m.command(depth) })
}

func (m *maker) command(depth int) api.Cmd {
	kind := pick(m, api.CmdSet, api.CmdDraw, api.CmdDraw, api.CmdDraw, api.CmdDraw, api.CmdIf, api.CmdIf, api.CmdObserve, api.CmdWhile, api.CmdCall, api.CmdCut)
	c := api.Cmd{Kind: kind}
	switch {
	case kind == api.CmdCut && !m.isNested:
	case kind == api.CmdDraw && m.draws > 0:
		m.draws--
		c.Var, c.Site = m.IntN(len(m.cells)), m.IntN(4)
		c.Dist = m.dist(m.cells[c.Var])
	case kind == api.CmdIf && depth > 0:
		c.Form, c.Then, c.Else = m.form(2), m.commands(3, depth-1), m.commands(2, depth-1)
	case kind == api.CmdWhile && depth > 0 && !m.isNested:
		c.Form, c.Then = m.form(2), m.commands(3, depth-1)
	case kind == api.CmdObserve:
		c.Form = node(api.FoOr, m.form(2), m.form(2))
	case kind == api.CmdCall && len(m.procs) > 0:
		return m.call()
	default:
		return m.set()
	}
	return c
}

func (m *maker) set() api.Cmd {
	outs := m.targets(1 + m.IntN(3))
	if len(outs) == 0 {
		return observe(num(1))
	}
	return setAll(outs, many(m, len(outs), len(outs), func() api.Form { return m.form(3) })...)
}

// call returns a call, or an assignment where there are too few cells for its results.
func (m *maker) call() api.Cmd {
	i := m.IntN(len(m.procs))
	p := m.procs[i]
	outs := m.targets(len(p.Outs))
	if len(outs) < len(p.Outs) {
		return m.set()
	}
	return call(i, outs, many(m, p.Args, p.Args, func() api.Form { return m.form(2) })...)
}

// finite returns a cell of a procedure or a nested module.
func (m *maker) finite() api.Cell {
	low := pick(m, -1000, -17, -3, 0, 1, 985)
	return pick(m, truth, truth, small, digit, integer(0, 3), integer(low, low+m.IntN(16)))
}

// query returns a nested module.
func (m *maker) query() api.Module {
	m.isNested, m.params, m.draws, m.procs = true, 0, 1+m.IntN(5), nil
	m.cells = many(m, 1, 4, m.finite)
	out := m.IntN(len(m.cells))
	x := api.Module{Cells: m.cells, Outs: []int{out}, Type: typeOf(m.cells[out])}
	x.Body = m.commands(5, 3)
	if !m.often(4) {
		x.Body = append(x.Body, draw(out, m.dist(m.cells[out])))
	}
	x.Body = append(x.Body, m.commands(2, 2)...)
	return x
}

// signature returns a procedure without commands.
func (m *maker) signature() api.Proc {
	p := api.Proc{Cells: many(m, 1, 4, m.finite)}
	p.Args = m.IntN(len(p.Cells) + 1)
	p.Outs = many(m, 1, 3, func() int { return m.IntN(len(p.Cells)) })
	return p
}

// module returns a valid module with up to five nested ones.
func (m *maker) module() api.Module {
	var queries []api.Module
	for m.queries = 0; m.queries < 5 && !m.often(5); m.queries++ {
		queries = append(queries, m.query())
	}
	m.isNested, m.params, m.draws = false, m.IntN(api.MaxParams+1), 20
	x := api.Module{Params: m.params, Nested: queries, Procs: many(m, 0, 2, m.signature)}
	m.procs = slices.Clone(x.Procs)
	for i, p := range x.Procs {
		m.cells = p.Cells
		x.Procs[i].Body = m.commands(4, 2)
	}
	extra := pick(m, truth, natural, real)
	m.cells = many(m, 1, 4, func() api.Cell { return pick(m, m.finite(), m.finite(), extra) })
	x.Cells, x.Outs = m.cells, []int{m.IntN(len(m.cells))}
	x.Type = typeOf(m.cells[x.Outs[0]])
	x.Body = m.commands(8, 3)
	return copyOf(x)
}

// damage changes a module, so that it has an error, often.
func (m *maker) damage(x *api.Module) {
	n := len(x.Nested)
	if n == 0 || m.often(4) {
		switch m.IntN(5) {
		case 0:
			x.Outs = many(m, 0, 2, func() int { return m.IntN(4) - 1 })
		case 1:
			x.Cells = append(x.Cells, slices.Repeat([]api.Cell{truth}, pick(m, 1, api.MaxCells))...)
		case 2:
			x.Body = append(x.Body, from(0, pick(m, -1, n, n-1)))
		case 3:
			x.Params = m.IntN(6) - 1
		default:
			x.Body = append(x.Body, pick(m, api.Cmd{Kind: 8}, loop(num(0), from(len(x.Cells), 0)), observe(variable(len(x.Cells)))))
		}
		return
	}
	i := m.IntN(n)
	q := &x.Nested[i]
	half := slices.Repeat([]api.Poly{m.constant(1, 2)}, 2)
	switch m.IntN(7) {
	case 0:
		q.Params = m.IntN(2)
	case 1:
		q.Body = append(q.Body, from(0, pick(m, i, i+1, max(i-1, 0))))
	case 2:
		q.Body = append(q.Body, pick(m, cut, loop(num(0)), call(0, []int{0})))
	case 3:
		q.Body = append(q.Body, observe(num(0)))
	case 4:
		q.Body = append(q.Body, branch(num(0), nil, []api.Cmd{observe(node(api.FoLt, num(m.IntN(2)-5), api.Form{Op: api.FoRat, Rat: m.ratio(1, 2)}))}))
	case 5:
		most := draw(0, api.Dist{Kind: api.DistTable, Weights: slices.Repeat([]api.Poly{m.constant(1, 16)}, 16)})
		q.Body = append(q.Body, slices.Repeat([]api.Cmd{most}, 4)...)
	default:
		one := draw(0, api.Dist{Kind: api.DistTable, Weights: []api.Poly{m.constant(1, 1)}})
		q.Body = slices.Concat(slices.Repeat([]api.Cmd{one}, 59), []api.Cmd{draw(0, api.Dist{Kind: api.DistTable, Weights: half})}, q.Body)
	}
}

// argument returns a module, with an error in some cases.
func (m *maker) argument() api.Module {
	x := m.module()
	for m.often(8) {
		m.damage(&x)
	}
	return copyOf(x)
}

func TestRandomModules(t *testing.T) {
	m := newMaker(181)
	errors, tables := map[api.Errno]int{}, map[int]int{}
	for range 2000 {
		x := m.argument()
		e := check(t, x)
		if t.Failed() {
			return
		}
		errors[e]++
		n, _ := nested.Resolve(drawing(x.Nested...))
		for _, c := range n.Body {
			tables[len(slices.DeleteFunc(c.Dist.Weights, func(w api.Poly) bool { return len(w) == 0 }))]++
		}
	}
	for e, least := range map[api.Errno]int{api.OK: 800, api.ErrForm: 30, api.ErrClass: 10, api.ErrLimit: 20, api.ErrEvidence: 50} {
		if errors[e] < least {
			t.Errorf("the error %d is met %d times", e, errors[e])
		}
	}
	if min(tables[1], tables[2], tables[3]) < 100 || min(tables[4], tables[5]+tables[6]) < 20 {
		t.Errorf("the numbers of possible values are %v", tables)
	}
}

// The modules of the maker are valid.
func TestMaker(t *testing.T) {
	m := newMaker(182)
	for range 500 {
		x := m.module()
		if e := core.Validate(x); e != api.OK {
			t.Fatalf("%+v has the error %d", x, e)
		}
	}
}
