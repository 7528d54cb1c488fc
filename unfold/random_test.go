package unfold_test

import (
	"math/rand/v2"
	"slices"
	"testing"

	"exactppl/api"
	"exactppl/core"
	"exactppl/polynomial"
	"exactppl/unfold"
)

// kind says what the modules of a maker have.
type kind struct {
	loops, recursion, cuts, nested bool
	finite                         bool // there are no draws but from tables, no parameters, and no real numbers
}

// maker makes random modules that are valid.
type maker struct {
	*rand.Rand
	kind
	params  int
	nested  int // how many nested modules can be drawn from
	cells   []api.Cell
	procs   []api.Proc
	callees []int // the procedures that can be called
}

func newMaker(seed uint64) *maker { return &maker{Rand: rand.New(rand.NewPCG(seed, seed+1))} }

// often reports in one of n cases true.
func (m *maker) often(n int) bool { return m.IntN(n) == 0 }

func pick[T any](m *maker, l ...T) T { return l[m.IntN(len(l))] }

// many returns from low to high parts.
func many[T any](m *maker, low, high int, part func() T) []T {
	var l []T
	for range low + m.IntN(high-low+1) {
		l = append(l, part())
	}
	return l
}

func (m *maker) anyKind() kind {
	return kind{loops: m.often(2), recursion: m.often(2), cuts: m.often(2), nested: m.often(5), finite: m.often(3)}
}

// dist returns a distribution for a cell.
func (m *maker) dist(c api.Cell) api.Dist {
	switch {
	case c == real && m.often(2):
		return api.Dist{Kind: api.DistInterval, From: ratio(-m.IntN(3), 2), To: ratio(1+m.IntN(5), 7)}
	case c == real:
		return api.Dist{Kind: api.DistBeta, Low: 1 + m.IntN(api.MaxBeta), High: 1 + m.IntN(api.MaxBeta)}
	case c == natural && !m.finite && m.often(2):
		return api.Dist{Kind: api.DistGeometric, From: ratio(m.IntN(7), 7)}
	case m.nested > 0 && m.often(2):
		return nestedDraw(m.IntN(m.nested))
	}
	a, b := m.IntN(4), 1+m.IntN(4)
	p := constant(a, a+b)
	if m.params > 0 && a > 0 && m.often(2) {
		p[0].Mono[m.IntN(m.params)] = 1 + m.IntN(2)
	}
	q, _ := polynomial.Sub(constant(1, 1), p)
	return pick(m, table(pick(m, 0, 0, -1, 2), p, q), table(m.IntN(2), constant(1, 1)), table(-1, constant(1, 4), constant(1, 2), constant(1, 4)))
}

// isPlain reports whether a cell is not real.
func isPlain(c api.Cell) bool { return c != real }

// targets returns n different cells that are not real, or fewer.
func (m *maker) targets(n int) []int {
	l := slices.DeleteFunc(m.Perm(len(m.cells)), func(i int) bool { return !isPlain(m.cells[i]) })
	return l[:min(n, len(l))]
}

// form returns a form that is not real.
func (m *maker) form(depth int) api.Form {
	if depth <= 0 || m.often(4) {
		l := m.targets(1)
		if len(l) == 0 || m.often(4) {
			return num(m.IntN(5) - 2)
		}
		return variable(l[0])
	}
	inner := func() api.Form { return m.form(depth - 1) }
	switch m.IntN(5) {
	case 0:
		return not(inner())
	case 1:
		return node(api.FoCond, inner(), inner(), inner())
	case 2:
		if i := slices.Index(m.cells, real); i >= 0 {
			return node(pick(m, api.FoLt, api.FoLe), variable(i), api.Form{Op: api.FoRat, Rat: ratio(1, 1+m.IntN(5))})
		}
	}
	return node(pick(m, api.FoAnd, api.FoOr, api.FoEq, api.FoLt, api.FoLe, api.FoAdd, api.FoSub, api.FoMul), inner(), inner())
}

func (m *maker) commands(most, depth int) []api.Cmd {
	return many(m, 0, most, func() api.Cmd { return m.command(depth) })
}

func (m *maker) command(depth int) api.Cmd {
	c := api.Cmd{Kind: pick(m, api.CmdSet, api.CmdDraw, api.CmdDraw, api.CmdIf, api.CmdObserve, api.CmdCut, api.CmdWhile, api.CmdCall, api.CmdCall, api.CmdCall)}
	switch {
	case c.Kind == api.CmdCut && m.cuts:
	case c.Kind == api.CmdDraw:
		c.Var, c.Site = m.IntN(len(m.cells)), m.IntN(3)
		c.Dist = m.dist(m.cells[c.Var])
	case c.Kind == api.CmdIf && depth > 0:
		c.Form, c.Then, c.Else = m.form(2), m.commands(2, depth-1), m.commands(2, depth-1)
	case c.Kind == api.CmdWhile && depth > 0 && m.loops:
		c.Form, c.Then = m.form(2), m.commands(2, depth-1)
	case c.Kind == api.CmdObserve:
		c.Form = node(api.FoOr, m.form(1), m.form(2))
	case c.Kind == api.CmdCall && len(m.callees) > 0:
		return m.call(pick(m, m.callees...))
	default:
		return m.set()
	}
	return c
}

func (m *maker) set() api.Cmd {
	outs := m.targets(1 + m.IntN(2))
	if len(outs) == 0 {
		return observe(num(1))
	}
	return setAll(outs, many(m, len(outs), len(outs), func() api.Form { return m.form(2) })...)
}

// call returns a call, or an assignment where there are too few cells for its results.
func (m *maker) call(i int) api.Cmd {
	p := m.procs[i]
	outs := m.targets(len(p.Outs))
	if len(outs) < len(p.Outs) {
		return m.set()
	}
	return call(i, outs, many(m, p.Args, p.Args, func() api.Form { return m.form(2) })...)
}

// finiteCell returns a cell of a procedure.
func (m *maker) finiteCell() api.Cell {
	return pick(m, truth, truth, small, api.Cell{Kind: api.TypeInt, Low: 1, High: 2}, api.Cell{Kind: api.TypeInt, Low: -3, High: -2})
}

// signature returns a procedure without commands.
func (m *maker) signature() api.Proc {
	p := api.Proc{Cells: many(m, 1, 3, m.finiteCell)}
	p.Args = m.IntN(len(p.Cells) + 1)
	p.Outs = many(m, 1, 2, func() int { return m.IntN(len(p.Cells)) })
	return p
}

// module returns a module of a kind.
func (m *maker) module(k kind) api.Module {
	x := api.Module{Cells: []api.Cell{truth, m.finiteCell()}, Outs: []int{0}, Type: boolean}
	m.kind, m.params, m.nested = k, 0, 0
	if !k.finite {
		m.params = m.IntN(3)
		x.Cells = append(x.Cells, pick(m, truth, natural, real))
	}
	x.Params = m.params
	if k.nested {
		x.Nested = []api.Module{module(nil, flip(0)), module(nil, draw(0, nestedDraw(0)))}
		m.nested = m.IntN(3)
	}
	m.procs = many(m, 0, 6, m.signature)
	x.Procs = slices.Clone(m.procs)
	for i := range x.Procs {
		m.cells, m.callees = x.Procs[i].Cells, nil
		for j := range x.Procs {
			if k.recursion || i < j {
				m.callees = append(m.callees, j)
			}
		}
		x.Procs[i].Body = m.commands(5, 2)
	}
	m.cells, m.callees = x.Cells, m.Perm(len(x.Procs))
	x.Body = m.commands(5, 2)
	return copyOf(x)
}

// damage changes one place of a module, so that it is not valid, often.
func (m *maker) damage(x *api.Module) {
	switch m.IntN(6) {
	case 0:
		x.Outs = many(m, 0, 2, func() int { return m.IntN(4) - 1 })
	case 1:
		x.Cells = slices.Repeat(x.Cells, 1+m.IntN(2)*200)
	case 2:
		x.Body = append(x.Body, pick(m, cut, api.Cmd{Kind: 8}, call(m.IntN(9)-1, []int{0}), loop(variable(m.IntN(5)-1)), draw(0, nestedDraw(m.IntN(3)))))
	case 3:
		x.Procs = append(x.Procs, procedure([]api.Cell{pick(m, truth, real)}, m.IntN(3), pick(m, cut, draw(m.IntN(2), fair(2)), set(0, num(1)), call(0, []int{0}))))
	case 4:
		x.Params = m.IntN(6) - 1
	case 5:
		x.Type = pick(m, boolean, api.Type{Kind: m.IntN(7)})
	}
	*x = copyOf(*x)
}

// Random modules are unfolded as the definition says, and modules that are too large have ErrLimit.
func TestRandomModules(t *testing.T) {
	m := newMaker(145)
	met := map[api.Errno]int{}
	for range 6000 {
		x := m.module(m.anyKind())
		if e := core.Validate(x); e != api.OK {
			t.Fatalf("%+v has the error %d", x, e)
		}
		if m.often(8) {
			m.damage(&x)
		}
		k := pick(m, 0, 1, 1, 2, 2, 3, 4, 5, 7, 12, 12, m.IntN(17)-2)
		_, e := check(t, x, k)
		met[e]++
		if t.Failed() {
			return
		}
	}
	for e, least := range map[api.Errno]int{api.OK: 3000, api.ErrLimit: 100, api.ErrForm: 100, api.ErrRange: 80, api.ErrClass: 100} {
		if met[e] < least {
			t.Errorf("the error %d is met %d times", e, met[e])
		}
	}
}

// Complete and Depth of random modules and of their unfoldings.
func TestDepthOfRandomModules(t *testing.T) {
	m := newMaker(147)
	met := map[[2]int]int{}
	for range 6000 {
		x := m.module(m.anyKind())
		if m.often(8) {
			m.damage(&x)
		}
		checkComplete(t, x)
		depth, e := checkDepth(t, x)
		met[[2]int{depth, int(e)}]++
		if e != api.OK || hasDraw(x, api.DistNested) {
			continue
		}
		hasCut := slices.ContainsFunc(all(x), func(c api.Cmd) bool { return c.Kind == api.CmdCut })
		for k := range api.MaxUnfold + 1 {
			n, e := unfold.Unfold(x, k)
			if e != api.OK && e != api.ErrLimit {
				t.Errorf("the error of Unfold(%+v, %d) is %d", x, k, e)
			}
			checkComplete(t, n)
			if isComplete := unfold.Complete(n); e == api.OK && !hasCut && isComplete != (k >= depth) {
				t.Errorf("the depth of %+v is %d, and for k = %d Complete is %v", x, depth, k, isComplete)
			}
		}
		if t.Failed() {
			return
		}
	}
	for depth := range 5 {
		if met[[2]int{depth, 0}] < 8 {
			t.Errorf("the depth %d is met %d times", depth, met[[2]int{depth, 0}])
		}
	}
	for _, e := range []api.Errno{api.ErrClass, api.ErrForm, api.ErrLimit} {
		if met[[2]int{0, int(e)}] < 20 {
			t.Errorf("the error %d is met %d times", e, met[[2]int{0, int(e)}])
		}
	}
}
