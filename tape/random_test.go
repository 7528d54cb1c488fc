package tape_test

import (
	"math"
	"math/rand/v2"
	"slices"
	"testing"

	"exactppl/api"
	"exactppl/tape"
)

// maker makes random modules that are enumerable and have no parameters.
type maker struct {
	*rand.Rand
	cells []api.Cell
	draws int // how many more draws there may be
}

func newMaker(seed uint64) *maker { return &maker{Rand: rand.New(rand.NewPCG(seed, seed+1))} }

// often reports in one of n cases true.
func (m *maker) often(n int) bool { return m.IntN(n) == 0 }

func pick[T any](m *maker, l ...T) T { return l[m.IntN(len(l))] }

// many returns from low to high parts.
func many[T any](m *maker, low, high int, part func() T) []T {
	var l []T
	for range low + m.IntN(high-low+1) {
		l = append(l, part())
	}
	return l
}

// ratio returns num / den, often not in lowest terms.
func (m *maker) ratio(num, den int) api.Rat {
	k := 1 + m.IntN(3)
	r := api.Rat{Neg: num < 0, Num: []uint32{uint32(k * max(num, -num))}, Den: []uint32{uint32(k * den)}}
	if m.often(3) {
		r.Num, r.Den = append(r.Num, 0), append(r.Den, 0, 0)
	}
	return r
}

// constant returns a constant polynomial, often with terms whose sum is zero.
func (m *maker) constant(num, den int) api.Poly {
	l := api.Poly{{Coef: m.ratio(num, den)}}
	if num == 0 && m.often(2) {
		l = nil
	}
	for m.often(4) {
		var mono api.Mono
		mono[m.IntN(api.MaxVars)] = pick(m, 0, 1, 17, api.MaxExp)
		n := 1 + m.IntN(4)
		l = append(l, api.Term{Mono: mono, Coef: m.ratio(n, 3)}, api.Term{Mono: mono, Coef: m.ratio(-n, 3)})
	}
	m.Shuffle(len(l), func(i, j int) { l[i], l[j] = l[j], l[i] })
	return l
}

func (m *maker) dist() api.Dist {
	n := pick(m, 1, 2, 2, 2, 3, 4, 5)
	parts := many(m, n, n, func() int { return m.IntN(3) })
	parts[m.IntN(n)]++
	whole := 0
	for _, part := range parts {
		whole += part
	}
	weights := each(parts, func(part int) api.Poly { return m.constant(part, whole) })
	return api.Dist{Kind: api.DistTable, Low: pick(m, 0, 0, 0, -1, 1, api.MaxInt-n+1), Weights: weights}
}

func (m *maker) form(depth int) api.Form {
	if depth <= 0 || m.often(4) {
		if m.often(3) {
			return num(pick(m, 0, 1, -1, 2, 1000))
		}
		return variable(m.IntN(len(m.cells)))
	}
	inner := func() api.Form { return m.form(depth - 1) }
	if m.often(5) {
		return not(inner())
	}
	return node(pick(m, api.FoAnd, api.FoOr, api.FoEq, api.FoLt, api.FoLe, api.FoAdd, api.FoSub, api.FoMul), inner(), inner())
}

func (m *maker) commands(most, depth int) []api.Cmd {
	return many(m, 0, most, func() api.Cmd { return m.command(depth) })
}

func (m *maker) command(depth int) api.Cmd {
	kind := pick(m, api.CmdSet, api.CmdDraw, api.CmdDraw, api.CmdDraw, api.CmdDraw, api.CmdIf, api.CmdIf, api.CmdIf, api.CmdObserve, api.CmdCut)
	switch {
	case kind == api.CmdDraw && m.draws > 0:
		m.draws--
		return draw(m.IntN(len(m.cells)), m.dist())
	case kind == api.CmdIf && depth > 0:
		return branch(m.form(2), m.commands(3, depth-1), m.commands(2, depth-1))
	case kind == api.CmdObserve && m.often(2):
		return observe(node(api.FoOr, m.form(2), m.form(2)))
	case kind == api.CmdCut && m.often(3):
		return cut
	}
	outs := m.Perm(len(m.cells))[:1+m.IntN(min(3, len(m.cells)))]
	return setAll(outs, many(m, len(outs), len(outs), func() api.Form { return m.form(3) })...)
}

// module returns a module with few draws, so that there are tapes for all of them.
func (m *maker) module() api.Module {
	m.draws = m.IntN(4)
	m.cells = many(m, 1, 4, func() api.Cell { return pick(m, truth, small, wide) })
	x := api.Module{Cells: m.cells, Outs: many(m, 2, 4, func() int { return m.IntN(len(m.cells)) }), Type: api.Type{Kind: api.TypeTuple}}
	if m.often(2) {
		x.Outs = x.Outs[:1]
		x.Type = typeOf(m.cells[x.Outs[0]])
	} else {
		x.Type.Elems = each(x.Outs, func(i int) api.Type { return typeOf(m.cells[i]) })
	}
	if m.often(4) {
		x.Cells = append(slices.Clone(m.cells), natural)
		m.cells = x.Cells
	}
	choose := func() api.Cmd { return draw(m.IntN(len(m.cells)), m.dist()) }
	x.Body = slices.Concat(many(m, 0, 2, choose), m.commands(6, 3), many(m, 0, 1, choose))
	number(x.Body, 0)
	return copyOf(x)
}

// number numbers the draws of l from a number on, and returns the next one.
func number(l []api.Cmd, from int) int {
	for i := range l {
		if l[i].Kind == api.CmdDraw {
			l[i].Site = from
			from++
		}
		from = number(l[i].Else, number(l[i].Then, from))
	}
	return from
}

// damage changes a place of a module, so that it has an error, often.
func (m *maker) damage(x *api.Module) {
	half := m.constant(1, 2)
	switch m.IntN(7) {
	case 0:
		x.Outs = many(m, 0, 2, func() int { return m.IntN(4) - 1 })
	case 1:
		x.Cells = append(x.Cells, slices.Repeat([]api.Cell{pick(m, real, natural)}, pick(m, 1, 1, api.MaxCells))...)
	case 2:
		x.Body = append(x.Body, pick(m, api.Cmd{Kind: 8}, api.Cmd{Kind: api.CmdWhile, Form: num(0)}, observe(variable(len(x.Cells))), draw(0, api.Dist{Kind: api.DistTable, Weights: []api.Poly{half}})))
	case 3:
		x.Body = append(x.Body, observe(node(api.FoLt, num(1), api.Form{Op: api.FoRat, Rat: m.ratio(1, 2)})))
	case 4:
		x.Body = append(x.Body, draw(0, api.Dist{Kind: api.DistTable, Weights: []api.Poly{half, half}}))
		number(x.Body, m.IntN(2))
	default:
		x.Params = m.IntN(6) - 1
	}
	*x = copyOf(*x)
}

// arguments are those of all functions.
type arguments struct {
	M       api.Module
	Base, N int
	Tape    []int
}

// arguments returns arguments, most of them without errors, and with few tapes.
func (m *maker) arguments() arguments {
	x := arguments{M: m.module(), Base: 1 + m.IntN(12)}
	if m.often(10) {
		m.damage(&x.M)
	}
	if m.often(10) {
		x.Base = pick(m, 0, -1, 1<<20, 1<<20+1, math.MaxInt, math.MinInt)
	}
	for x.N < 5 && x.Base > 0 && tapesOf(x.Base, x.N+1) < 150 && !m.often(6) {
		x.N++
	}
	if m.often(10) {
		x.N = pick(m, -1, 64, 65, math.MaxInt, math.MinInt)
	}
	x.Tape = many(m, 0, 7, func() int {
		if m.often(20) {
			return pick(m, -1, x.Base, math.MaxInt, math.MinInt)
		}
		return m.IntN(min(max(1, x.Base), 1<<21))
	})
	return x
}

// All functions for random modules.
func TestRandomModules(t *testing.T) {
	m := newMaker(171)
	samples, counts, fits := map[api.Errno]int{}, map[api.Errno]int{}, map[api.Errno]int{}
	fitting, rows := map[bool]int{}, map[int]int{}
	for range 2000 {
		x := m.arguments()
		samples[checkSample(t, x.M, x.Base, x.Tape)]++
		e := checkCount(t, x.M, x.Base, x.N)
		counts[e]++
		fits[checkFits(t, x.M, x.Base)]++
		if t.Failed() {
			return
		}
		if e == api.OK && len(weightsOf(x.M.Body)) > 0 {
			does, _ := tape.Fits(x.M, x.Base)
			fitting[does]++
			measure, _ := tape.Count(x.M, x.Base, x.N)
			rows[len(measure.Rows)]++
		}
	}
	for e, least := range map[api.Errno]int{api.OK: 500, api.ErrForm: 20, api.ErrLimit: 5, api.ErrClass: 20, api.ErrRange: 100} {
		if min(samples[e], counts[e], fits[e]) < least {
			t.Errorf("the error %d is met %d, %d and %d times", e, samples[e], counts[e], fits[e])
		}
	}
	if min(samples[api.ErrTape], counts[api.ErrTape]) < 100 || min(fitting[true], fitting[false]) < 200 || min(rows[0], rows[1], rows[2], rows[3]) < 20 {
		t.Errorf("tapes are used up %d and %d times, the bases fit %v, the numbers of rows are %v", samples[api.ErrTape], counts[api.ErrTape], fitting, rows)
	}
}

// The modules of the maker have no error.
func TestMaker(t *testing.T) {
	m := newMaker(172)
	for range 500 {
		x := m.module()
		if e := errorOf(x, 1); e != api.OK {
			t.Fatalf("%+v has the error %d", x, e)
		}
	}
}
