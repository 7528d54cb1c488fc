package tape_test

import (
	"fmt"
	"math"
	"slices"
	"testing"

	"exactppl/api"
	"exactppl/polynomial"
	"exactppl/rational"
	"exactppl/tape"
)

// wantErrors checks the errors of Sample, Count and Fits.
func wantErrors(t *testing.T, what string, x arguments, sample, count, fits api.Errno) {
	t.Helper()
	u, taken, e := tape.Sample(x.M, x.Base, x.Tape)
	if e != sample || e != api.OK && (taken != 0 || !same(u, api.Trace{})) {
		t.Errorf("%s: Sample is %+v, %d with the error %d, not %d", what, u, taken, e, sample)
	}
	y, e := tape.Count(x.M, x.Base, x.N)
	if e != count || e != api.OK && !same(y, api.Measure{}) {
		t.Errorf("%s: Count is %s with the error %d, not %d", what, masses(y), e, count)
	}
	does, e := tape.Fits(x.M, x.Base)
	if e != fits || e != api.OK && does {
		t.Errorf("%s: Fits is %v with the error %d, not %d", what, does, e, fits)
	}
}

// all is the same error of all functions, whatever the other arguments are.
func all(t *testing.T, what string, m api.Module, e api.Errno) {
	t.Helper()
	for _, x := range []arguments{{M: m, Base: 2, N: 3, Tape: []int{0, 0, 0}}, {M: m, Base: 2, N: 65}, {M: m, N: -1, Tape: []int{-1}}, {M: m, Base: 1 << 20, N: 64}} {
		wantErrors(t, what, x, e, e, e)
	}
}

// parameter is a weight that is a parameter, and the other one.
func parameter() api.Dist {
	p, _ := polynomial.Var(0)
	q, _ := polynomial.Sub(polynomial.Const(rational.Int(1)), p)
	return api.Dist{Kind: api.DistTable, Weights: []api.Poly{p, q}}
}

// Modules that are not enumerable, or have parameters.
func TestNoClass(t *testing.T) {
	cells := []api.Cell{truth, small, natural}
	half := api.Form{Op: api.FoRat, Rat: fraction("1/2")}
	for what, m := range map[string]api.Module{
		"a geometric draw":         module(t, cells, draw(2, api.Dist{Kind: api.DistGeometric, From: fraction("1/2")})),
		"a geometric draw, behind": module(t, cells, cut, draw(2, api.Dist{Kind: api.DistGeometric})),
		"an interval":              module(t, []api.Cell{truth, real}, draw(1, api.Dist{Kind: api.DistInterval, To: fraction("1")})),
		"a real cell":              module(t, []api.Cell{truth, real}),
		"a fraction":               module(t, cells, observe(node(api.FoLt, half, num(1)))),
		"a fraction in a branch":   module(t, cells, branch(num(1), nil, []api.Cmd{set(0, node(api.FoLe, num(1), half))})),
		"a loop":                   module(t, cells, api.Cmd{Kind: api.CmdWhile, Form: num(0)}),
		"sites":                    {Cells: cells, Body: []api.Cmd{flip(0, "1/2"), flip(0, "1/2")}, Outs: []int{0}, Type: typeOf(truth)},
	} {
		all(t, what, m, api.ErrClass)
	}
	m := module(t, cells)
	m.Procs = []api.Proc{{Cells: []api.Cell{truth}, Outs: []int{0}}}
	all(t, "a procedure", m, api.ErrClass)
	m = module(t, cells)
	m.Nested = []api.Module{{Cells: []api.Cell{truth}, Outs: []int{0}, Type: typeOf(truth)}}
	all(t, "a nested module", m, api.ErrClass)
	for params := 1; params <= api.MaxParams; params++ {
		m = module(t, cells)
		m.Params = params
		all(t, "parameters without draws", m, api.ErrClass)
		m.Body = []api.Cmd{flip(0, "1/2")}
		all(t, "parameters that are not used", m, api.ErrClass)
		m.Body = []api.Cmd{draw(0, parameter())}
		all(t, "a parameter", m, api.ErrClass)
	}
	m.Params = 0
	all(t, "a parameter that does not exist", m, api.ErrForm)
	m.Params = -1
	all(t, "a negative number of parameters", m, api.ErrForm)
	m.Params = api.MaxParams + 1
	all(t, "too many parameters", m, api.ErrForm)
	many := func(n int) api.Module {
		m := module(t, cells, slices.Repeat([]api.Cmd{flip(0, "1/2")}, 64)...)
		m.Body = append(m.Body, slices.Repeat([]api.Cmd{flip(0, "1/2")}, n-64)...)
		number(m.Body, 0)
		return m
	}
	wantErrors(t, "64 draws", arguments{M: many(64), Base: 1, N: 64, Tape: make([]int, 64)}, api.OK, api.OK, api.OK)
	wantErrors(t, "64 draws", arguments{M: many(64), Base: 1, N: 63, Tape: make([]int, 63)}, api.ErrTape, api.ErrTape, api.OK)
	all(t, "65 draws", many(65), api.ErrClass)
	all(t, "no module", api.Module{}, api.ErrForm)
}

// The bases are from 1 to 1048576.
func TestBases(t *testing.T) {
	m := module(t, []api.Cell{truth}, flip(0, "1/2"))
	for _, base := range []int{0, -1, -2, 1048577, 1 << 32, 1<<32 + 2, math.MaxInt, math.MinInt} {
		wantErrors(t, fmt.Sprint("the base ", base), arguments{M: m, Base: base, Tape: []int{0}}, api.ErrRange, api.ErrRange, api.ErrRange)
	}
	for _, base := range []int{1, 2, 3, 1048575, 1048576} {
		wantErrors(t, fmt.Sprint("the base ", base), arguments{M: m, Base: base, Tape: []int{base - 1}}, api.OK, api.ErrTape, api.OK)
	}
}

// The errors in their order: that of core.Validate, ErrClass, ErrRange of the base, and those of each function.
func TestOrderOfErrors(t *testing.T) {
	changes := []struct {
		change              func(*arguments)
		sample, count, fits api.Errno
	}{
		{func(x *arguments) { x.M.Cells = slices.Repeat([]api.Cell{truth}, api.MaxCells+1) }, api.ErrLimit, api.ErrLimit, api.ErrLimit},
		{func(x *arguments) { x.M.Outs = nil }, api.ErrForm, api.ErrForm, api.ErrForm},
		{func(x *arguments) { x.M.Params = 1 }, api.ErrClass, api.ErrClass, api.ErrClass},
		{func(x *arguments) { x.M.Body[2].Kind = api.CmdWhile }, api.ErrClass, api.ErrClass, api.ErrClass},
		{func(x *arguments) { x.Base = 1<<20 + 1 }, api.ErrRange, api.ErrRange, api.ErrRange},
		{func(x *arguments) { x.Tape[0] = -1 }, api.ErrRange, api.OK, api.OK},
		{func(x *arguments) { x.Tape = x.Tape[:1] }, api.ErrTape, api.OK, api.OK},
		{func(x *arguments) { x.N = 65 }, api.OK, api.ErrRange, api.OK},
		{func(x *arguments) { x.N = 64 }, api.OK, api.ErrLimit, api.OK},
		{func(x *arguments) { x.N = 0 }, api.OK, api.ErrTape, api.OK},
	}
	first := func(e *api.Errno, next api.Errno) {
		if *e == api.OK {
			*e = next
		}
	}
	for bits := range 1 << len(changes) {
		x := arguments{M: module(t, []api.Cell{truth}, flip(0, "1/2"), flip(0, "1/2"), branch(num(1), nil, nil)), Base: 2, N: 4, Tape: []int{0, 1}}
		var sample, count, fits api.Errno
		for i, c := range changes {
			if bits>>i&1 == 1 {
				first(&sample, c.sample)
				first(&count, c.count)
				first(&fits, c.fits)
			}
		}
		for i, c := range slices.Backward(changes) { // the first of the changes of N is made last
			if bits>>i&1 == 1 {
				c.change(&x)
			}
		}
		wantErrors(t, fmt.Sprintf("the errors %010b", bits), x, sample, count, fits)
	}
}
