package trace_test

import (
	"math/rand/v2"
	"slices"
	"testing"

	"exactppl/api"
	"exactppl/core"
	"exactppl/polynomial"
)

// maker makes random modules that are enumerable.
type maker struct {
	*rand.Rand
	params int
	cells  []api.Cell
	draws  int // how many more draws there may be
}

func newMaker(seed uint64) *maker { return &maker{Rand: rand.New(rand.NewPCG(seed, seed+1))} }

// often reports in one of n cases true.
func (m *maker) often(n int) bool { return m.IntN(n) == 0 }

func pick[T any](m *maker, l ...T) T { return l[m.IntN(len(l))] }

// many returns from low to high parts.
func many[T any](m *maker, low, high int, part func() T) []T {
	var l []T
	for range low + m.IntN(high-low+1) {
		l = append(l, part())
	}
	return l
}

// disguised returns r in another form, often.
func (m *maker) disguised(r api.Rat) api.Rat {
	k := uint32(1 + m.IntN(3))
	times := func(l []uint32) []uint32 {
		if len(l) != 1 || l[0] > 1<<16 {
			return l
		}
		return append([]uint32{k * l[0]}, make([]uint32, m.IntN(2))...)
	}
	if len(r.Num) > 1 || len(r.Den) > 1 {
		return r
	}
	return api.Rat{Neg: r.Neg, Num: times(r.Num), Den: times(r.Den)}
}

// term returns a term that a weight may have.
func (m *maker) term() api.Term {
	t := api.Term{Coef: ratio(m.IntN(7)-3, 1+m.IntN(4))}
	if m.params > 0 {
		t.Mono[m.IntN(m.params)] = pick(m, 1, 1, 2, api.MaxWeight)
		t.Mono[m.IntN(m.params)] = pick(m, 1, 3)
	}
	return t
}

// disguisedPoly returns p in another form, often.
func (m *maker) disguisedPoly(p api.Poly) api.Poly {
	var l api.Poly
	for _, t := range p {
		t.Coef = m.disguised(t.Coef)
		l = append(l, t)
	}
	for m.often(4) { // terms whose sum is zero
		t := m.term()
		t.Mono[m.IntN(api.MaxVars)] = pick(m, 1, 17, api.MaxExp)
		minus := t
		minus.Coef.Neg = !t.Coef.Neg
		l = append(l, t, minus)
	}
	m.Shuffle(len(l), func(i, j int) { l[i], l[j] = l[j], l[i] })
	return l
}

// weights returns n weights whose sum is 1.
func (m *maker) weights(n int) []api.Poly {
	parts := many(m, n, n, func() int { return m.IntN(3) })
	parts[m.IntN(n)]++
	whole := 0
	for _, part := range parts {
		whole += part
	}
	l := each(parts, func(part int) api.Poly { return constant(part, whole) })
	if n > 1 && m.params > 0 && m.often(2) {
		t := m.term()
		i, j := m.IntN(n), m.IntN(n)
		l[i], _ = polynomial.Add(l[i], api.Poly{t})
		l[j], _ = polynomial.Sub(l[j], api.Poly{t})
		if m.often(3) && i != j { // the weights t, 1 - t and perhaps 0
			l = append(slices.Repeat([]api.Poly{nil}, n-2), api.Poly{t}, others(api.Poly{t}))
			m.Shuffle(n, func(i, j int) { l[i], l[j] = l[j], l[i] })
		}
	}
	return each(l, m.disguisedPoly)
}

func (m *maker) dist() api.Dist {
	n := pick(m, 1, 2, 2, 2, 3, 4, 5)
	return table(pick(m, 0, 0, -1, 1, -api.MaxInt, api.MaxInt-n+1), m.weights(n)...)
}

// form returns a form.
func (m *maker) form(depth int) api.Form {
	if depth <= 0 || m.often(4) {
		if m.often(3) {
			return num(pick(m, 0, 1, -1, 2, 1000, api.MaxArith, -3*api.MaxArith))
		}
		return variable(m.IntN(len(m.cells)))
	}
	inner := func() api.Form { return m.form(depth - 1) }
	switch m.IntN(6) {
	case 0:
		return not(inner())
	case 1:
		return node(api.FoCond, inner(), inner(), inner())
	}
	return node(pick(m, api.FoAnd, api.FoOr, api.FoEq, api.FoLt, api.FoLe, api.FoAdd, api.FoSub, api.FoMul), inner(), inner())
}

func (m *maker) commands(most, depth int) []api.Cmd {
	return many(m, 0, most, func() api.Cmd { return m.command(depth) })
}

func (m *maker) command(depth int) api.Cmd {
	kind := pick(m, api.CmdSet, api.CmdSet, api.CmdDraw, api.CmdDraw, api.CmdDraw, api.CmdIf, api.CmdIf, api.CmdIf, api.CmdObserve, api.CmdCut)
	switch {
	case kind == api.CmdDraw && m.draws > 0:
		m.draws--
		return draw(m.IntN(len(m.cells)), m.dist())
	case kind == api.CmdIf && depth > 0:
		return branch(m.form(2), m.commands(3, depth-1), m.commands(2, depth-1))
	case kind == api.CmdObserve:
		return observe(node(api.FoOr, m.form(2), m.form(2)))
	case kind == api.CmdCut && m.often(3):
		return cut
	}
	outs := m.Perm(len(m.cells))[:1+m.IntN(min(3, len(m.cells)))]
	return setAll(outs, many(m, len(outs), len(outs), func() api.Form { return m.form(3) })...)
}

func (m *maker) cell() api.Cell {
	low := pick(m, 0, -3, 2, 985, -api.MaxInt)
	return pick(m, truth, truth, small, natural, api.Cell{Kind: api.TypeInt, Low: low, High: low + pick(m, 0, 1, 7, 15)})
}

// typeOf returns the type whose only cell is c.
func typeOf(c api.Cell) api.Type {
	t := api.Type{Kind: c.Kind}
	if c.Kind == api.TypeInt {
		t.Low, t.High = c.Low, c.High
	}
	return t
}

// module returns a module. It has few draws, and its results have few cells, so that its traces can be found in many ways.
func (m *maker) module() api.Module {
	m.params, m.draws = m.IntN(api.MaxParams+1), m.IntN(8)
	m.cells = many(m, 1, 5, m.cell)
	first := m.IntN(len(m.cells))
	x := api.Module{Params: m.params, Cells: m.cells, Outs: []int{first}, Type: typeOf(m.cells[first])}
	if m.often(3) {
		x.Outs = many(m, 2, api.MaxElems, func() int { return m.IntN(len(m.cells)) })
		x.Type = api.Type{Kind: api.TypeTuple, Elems: each(x.Outs, func(i int) api.Type { return typeOf(m.cells[i]) })}
		for i, out := range x.Outs { // natural numbers are not elements of tuples
			if m.cells[out] == natural {
				m.cells[out] = truth
			}
			x.Type.Elems[i] = typeOf(m.cells[out])
		}
	}
	x.Body = m.commands(7, 3)
	m.number(x.Body, 0)
	return copyOf(x)
}

// number numbers the draws of l from a number on, and returns the next one.
func (m *maker) number(l []api.Cmd, from int) int {
	for i := range l {
		if l[i].Kind == api.CmdDraw {
			l[i].Site = from
			from++
		}
		from = m.number(l[i].Else, m.number(l[i].Then, from))
	}
	return from
}

// outcomes returns outcomes for the draws of a module, most of them fitting.
func (m *maker) outcomes() []int {
	return many(m, 0, 6, func() int { return pick(m, 0, 0, 0, 1, 1, 1, 2, 3, 4, m.IntN(9)-2) })
}

// damage changes a place of a module, so that it is not enumerable, or not valid, often.
func (m *maker) damage(x *api.Module) {
	c := &x.Body
	for len(*c) > 0 && m.often(2) {
		i := m.IntN(len(*c))
		c = pick(m, &(*c)[i].Then, &(*c)[i].Else)
	}
	switch m.IntN(8) {
	case 0:
		x.Outs = many(m, 0, 2, func() int { return m.IntN(4) - 1 })
	case 1:
		x.Cells = append(x.Cells, slices.Repeat([]api.Cell{pick(m, real, natural)}, pick(m, 1, 1, api.MaxCells))...)
	case 2:
		*c = append(*c, pick(m, api.Cmd{Kind: 8}, api.Cmd{Kind: api.CmdWhile, Form: num(0)}, observe(fraction(1, 2)), observe(variable(len(x.Cells))), draw(0, table(0, constant(1, 2)))))
	case 3:
		*c = append(*c, pick(m, observe(node(api.FoLt, num(1), fraction(1, 2))), branch(node(api.FoLe, fraction(0, 1), num(2)), nil, nil), set(0, node(api.FoLt, fraction(1, 2), fraction(1, 3)))))
	case 4:
		x.Procs = append(x.Procs, api.Proc{Cells: []api.Cell{truth}, Outs: []int{m.IntN(2)}})
	case 5:
		x.Nested = append(x.Nested, api.Module{Cells: []api.Cell{truth}, Outs: []int{0}, Type: boolean})
	case 6:
		x.Cells = append(x.Cells, natural)
		*c = append(*c, draw(len(x.Cells)-1, api.Dist{Kind: api.DistGeometric, From: ratio(1, 2)}))
		m.number(x.Body, m.IntN(2)) // its site is the only error if it is wrong
	default:
		x.Params = m.IntN(6) - 1
	}
	*x = copyOf(*x)
}

// random returns a random module with outcomes.
func (m *maker) random() (api.Module, []int) {
	x := m.module()
	if m.often(6) {
		m.damage(&x)
	}
	if m.often(12) {
		x.Body = copyOf(append(x.Body, draw(0, fair(2)))) // not numbered
	}
	return x, m.outcomes()
}

// All functions for random modules.
func TestRandomModules(t *testing.T) {
	m := newMaker(165)
	runs, alls, ends, most := map[api.Errno]int{}, map[api.Errno]int{}, map[int]int{}, 0
	for range 8000 {
		x, outcomes := m.random()
		run, all := check(t, x, outcomes)
		runs[run]++
		alls[all]++
		if t.Failed() {
			return
		}
		if all == api.OK {
			l := traces(x, nil)
			most = max(most, len(l))
			for _, u := range l {
				ends[u.End]++
			}
		}
	}
	for e, least := range map[api.Errno]int{api.OK: 2000, api.ErrForm: 200, api.ErrLimit: 20, api.ErrClass: 200, api.ErrTape: 200, api.ErrRange: 200} {
		isOfRun := e == api.ErrTape || e == api.ErrRange
		if runs[e] < least || alls[e] < least && !isOfRun {
			t.Errorf("the error %d is met %d and %d times", e, runs[e], alls[e])
		}
	}
	if min(ends[api.EndAccepted], ends[api.EndRejected], ends[api.EndCut]) < 1000 || most < 100 {
		t.Errorf("the traces end %v, and there are at most %d", ends, most)
	}
}

// The modules of the maker are valid and enumerable.
func TestMaker(t *testing.T) {
	m := newMaker(166)
	for range 500 {
		if x := m.module(); core.Validate(x) != api.OK || !isEnumerable(x) {
			t.Fatalf("%+v has the error %d", x, moduleError(x))
		}
	}
}
