package trace_test

import (
	"fmt"
	"slices"
	"testing"

	"exactppl/api"
	"exactppl/core"
	"exactppl/trace"
)

// wantErrors checks the errors of Run without outcomes, and of All and Measure.
func wantErrors(t *testing.T, what string, m api.Module, run, all api.Errno) {
	t.Helper()
	x, n, e := trace.Run(m, nil)
	if e != run || e != api.OK && (n != 0 || !same(x, api.Trace{})) {
		t.Errorf("%s: Run is %+v, %d with the error %d, not %d", what, x, n, e, run)
	}
	l, e := trace.All(m)
	if e != all || e != api.OK && len(l) > 0 {
		t.Errorf("%s: All has %d traces and the error %d, not %d", what, len(l), e, all)
	}
	y, e := trace.Measure(m)
	if e != all || e != api.OK && !same(y, api.Measure{}) {
		t.Errorf("%s: Measure is %s with the error %d, not %d", what, masses(y), e, all)
	}
}

// both is the same error of all functions.
func both(t *testing.T, what string, m api.Module, e api.Errno) {
	t.Helper()
	wantErrors(t, what, m, e, e)
}

// places puts a command into all places of a body; it is executed in few of them.
func places(c api.Cmd) map[string][]api.Cmd {
	l := []api.Cmd{c}
	return map[string][]api.Cmd{
		"alone":                 l,
		"behind a draw":         {flip(0), c},
		"behind the end":        {cut, c},
		"then":                  {branch(num(0), l, nil)},
		"else":                  {branch(num(1), nil, l)},
		"in a branch in others": {branch(num(1), nil, []api.Cmd{branch(num(0), []api.Cmd{set(0, num(1)), c}, nil)})},
	}
}

// within puts a form into all places of commands.
func within(f api.Form) map[string]api.Cmd {
	g := node(api.FoLt, num(0), f)
	return map[string]api.Cmd{
		"observe":                observe(g),
		"a condition":            branch(node(api.FoLe, f, num(0)), nil, nil),
		"an assignment":          set(0, g),
		"the last assignment":    setAll([]int{1, 0}, num(0), not(g)),
		"a part that has no use": observe(node(api.FoCond, num(1), num(1), node(api.FoAnd, num(0), g))),
		"a product":              observe(node(api.FoEq, node(api.FoLt, node(api.FoMul, num(0), f), num(1)), num(1))),
	}
}

// The modules that are not enumerable, and similar ones that are.
func TestNotEnumerable(t *testing.T) {
	cells := []api.Cell{truth, small, natural}
	half := ratio(1, 2)
	for where, l := range places(draw(2, api.Dist{Kind: api.DistGeometric, From: half})) {
		both(t, "a geometric draw "+where, module(t, cells, l...), api.ErrClass)
	}
	for where, l := range places(api.Cmd{Kind: api.CmdWhile, Form: num(0)}) {
		both(t, "a loop "+where, module(t, cells, l...), api.ErrClass)
	}
	for what, c := range within(fraction(1, 2)) {
		for where, l := range places(c) {
			both(t, fmt.Sprint("a fraction in ", what, " ", where), module(t, cells, l...), api.ErrClass)
		}
	}
	for what, c := range within(num(2)) {
		if _, e := trace.All(module(t, cells, c)); e != api.OK {
			t.Errorf("a number in %s has the error %d", what, e)
		}
	}
	both(t, "a real cell", module(t, []api.Cell{truth, real}), api.ErrClass)
	both(t, "a result that is real", module(t, []api.Cell{real}), api.ErrClass)
	both(t, "a real and a natural cell", module(t, []api.Cell{truth, real, natural}), api.ErrClass)
	both(t, "an interval", module(t, []api.Cell{truth, real}, draw(1, api.Dist{Kind: api.DistInterval, To: half})), api.ErrClass)
	both(t, "a beta density", module(t, []api.Cell{truth, real}, draw(1, api.Dist{Kind: api.DistBeta, Low: 1, High: 1})), api.ErrClass)
	wantErrors(t, "a table for a natural cell", module(t, cells, draw(2, fair(2))), api.ErrTape, api.OK)

	m := module(t, cells)
	m.Procs = []api.Proc{{Cells: []api.Cell{truth}, Outs: []int{0}}}
	both(t, "a procedure", m, api.ErrClass)
	m.Body = []api.Cmd{{Kind: api.CmdCall, Outs: []int{0}}}
	both(t, "a call", m, api.ErrClass)
	m = module(t, cells)
	m.Nested = []api.Module{{Cells: []api.Cell{truth}, Outs: []int{0}, Type: boolean}}
	both(t, "a nested module", m, api.ErrClass)
	m.Body = []api.Cmd{draw(0, api.Dist{Kind: api.DistNested})}
	both(t, "a draw from a nested module", m, api.ErrClass)

	for i, sites := range [][]int{{0, 0}, {1, 0}, {1, 2}, {0, 2}, {0, -1}} {
		m = module(t, cells, flip(0), branch(num(0), []api.Cmd{flip(0)}, nil))
		m.Body[0].Site, m.Body[1].Then[0].Site = sites[0], sites[1]
		both(t, fmt.Sprint("the sites number ", i), m, api.ErrClass)
	}
	many := func(n int) api.Module {
		m := module(t, cells, branch(num(1), nil, slices.Repeat([]api.Cmd{flip(0)}, 64)))
		m.Body = append(m.Body, slices.Repeat([]api.Cmd{flip(0)}, n-64)...)
		(&maker{}).number(m.Body, 0)
		return m
	}
	both(t, "64 draws", many(64), api.OK)
	both(t, "65 draws", many(65), api.ErrClass)
}

// The errors of core.Validate come first, then ErrClass, then those of the functions.
func TestOrderOfErrors(t *testing.T) {
	cells := []api.Cell{truth, small}
	flips := slices.Repeat([]api.Cmd{flip(0)}, 15)
	tooLarge := func(m *api.Module) { m.Cells = slices.Repeat([]api.Cell{truth}, api.MaxCells+1) }
	notFormed := func(m *api.Module) { m.Outs = nil }
	noClass := func(m *api.Module) { m.Body = append(m.Body, observe(node(api.FoLt, num(0), fraction(1, 2)))) }
	for bits := range 8 {
		m := module(t, cells, flips...)
		run, all := api.ErrTape, api.ErrLimit
		for i, change := range []func(*api.Module){noClass, notFormed, tooLarge} {
			if bits>>i&1 == 1 {
				change(&m)
				e := []api.Errno{api.ErrClass, api.ErrForm, api.ErrLimit}[i]
				run, all = e, e
			}
		}
		wantErrors(t, fmt.Sprintf("the errors %03b", bits), m, run, all)
		if bits > 0 {
			for _, outcomes := range [][]int{{0}, {2}, {-1, 7}} {
				if x, n, e := trace.Run(m, outcomes); e != run || n != 0 || !same(x, api.Trace{}) {
					t.Errorf("the errors %03b: Run with %v is %+v, %d with the error %d, not %d", bits, outcomes, x, n, e, run)
				}
			}
		}
	}
	both(t, "no module", api.Module{}, api.ErrForm)
	if core.Validate(api.Module{}) != api.ErrForm {
		t.Error("an empty module is valid")
	}
}
