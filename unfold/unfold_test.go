package unfold_test

import (
	"fmt"
	"slices"
	"testing"

	"exactppl/api"
	"exactppl/core"
	"exactppl/lower"
	"exactppl/parser"
	"exactppl/polynomial"
	"exactppl/rational"
	"exactppl/unfold"
)

// each returns what change returns for each element of l.
func each[A, B any](l []A, change func(A) B) []B {
	var changed []B
	for _, x := range l {
		changed = append(changed, change(x))
	}
	return changed
}

func num(n int) api.Form { return api.Form{Op: api.FoInt, Int: n} }

func variable(i int) api.Form { return api.Form{Op: api.FoVar, Int: i} }

func node(op int, args ...api.Form) api.Form { return api.Form{Op: op, Args: args} }

func not(f api.Form) api.Form { return node(api.FoNot, f) }

func set(i int, f api.Form) api.Cmd { return setAll([]int{i}, f) }

func setAll(outs []int, args ...api.Form) api.Cmd {
	return api.Cmd{Kind: api.CmdSet, Outs: outs, Args: args}
}

func draw(i int, d api.Dist) api.Cmd { return api.Cmd{Kind: api.CmdDraw, Var: i, Dist: d} }

func flip(i int) api.Cmd { return draw(i, fair(2)) }

func observe(f api.Form) api.Cmd { return api.Cmd{Kind: api.CmdObserve, Form: f} }

func branch(f api.Form, yes, no []api.Cmd) api.Cmd {
	return api.Cmd{Kind: api.CmdIf, Form: f, Then: yes, Else: no}
}

func loop(f api.Form, l ...api.Cmd) api.Cmd { return api.Cmd{Kind: api.CmdWhile, Form: f, Then: l} }

func call(p int, outs []int, args ...api.Form) api.Cmd {
	return api.Cmd{Kind: api.CmdCall, Var: p, Outs: outs, Args: args}
}

var cut = api.Cmd{Kind: api.CmdCut}

func ratio(num, den int) api.Rat {
	r, _ := rational.New(num, den)
	return r
}

func constant(num, den int) api.Poly { return polynomial.Const(ratio(num, den)) }

// table has the outcomes from low on.
func table(low int, weights ...api.Poly) api.Dist {
	return api.Dist{Kind: api.DistTable, Low: low, Weights: weights}
}

// fair has n outcomes from 0 on.
func fair(n int) api.Dist { return table(0, slices.Repeat([]api.Poly{constant(1, n)}, n)...) }

// nestedDraw draws from the nested module i.
func nestedDraw(i int) api.Dist { return api.Dist{Kind: api.DistNested, Low: i} }

var (
	truth   = api.Cell{Kind: api.TypeBool, High: 1}
	small   = api.Cell{Kind: api.TypeInt, Low: -2, High: 3}
	natural = api.Cell{Kind: api.TypeNat}
	real    = api.Cell{Kind: api.TypeReal}
	boolean = api.Type{Kind: api.TypeBool}
)

// module has the cells truth and small and the result in the variable 0.
func module(procs []api.Proc, l ...api.Cmd) api.Module {
	return api.Module{Cells: []api.Cell{truth, small}, Procs: procs, Body: l, Outs: []int{0}, Type: boolean}
}

// procedure has these cells, of which the first ones are parameters, and its result in the last one.
func procedure(cells []api.Cell, args int, l ...api.Cmd) api.Proc {
	return api.Proc{Cells: cells, Args: args, Body: l, Outs: []int{len(cells) - 1}}
}

// check checks Unfold for a module and a number by the definition, and returns what it returns.
func check(t *testing.T, m api.Module, k int) (api.Module, api.Errno) {
	t.Helper()
	want := errorOf(m, k)
	n, e := unfold.Unfold(m, k)
	if e != want {
		t.Errorf("the error of Unfold(%.2000s, %d) is %d, not %d", show(m), k, e, want)
	}
	if e != api.OK {
		if !same(n, api.Module{}) {
			t.Errorf("Unfold(%.2000s, %d) is %.2000s with the error %d", show(m), k, show(n), e)
		}
		return n, e
	}
	if want == api.OK {
		compare(t, m, k, n)
	}
	return n, e
}

// compare compares an unfolding with the definition.
func compare(t *testing.T, m api.Module, k int, n api.Module) {
	t.Helper()
	body, cells := reference{m, k}.unfolded()
	if got := textOf(n.Body); got != body {
		t.Errorf("the body of Unfold(%.2000s, %d) is\n%s\nnot\n%s", show(m), k, got, body)
	}
	if !slices.Equal(n.Cells, cells) {
		t.Errorf("the cells of Unfold(%.2000s, %d) are %v, not %v", show(m), k, n.Cells, cells)
	}
	n.Body, n.Cells = nil, nil
	if want := (api.Module{Params: m.Params, Outs: m.Outs, Type: m.Type}); !same(n, want) {
		t.Errorf("Unfold(%.2000s, %d) has %v, not %v", show(m), k, n, want)
	}
}

func show(x any) string { return fmt.Sprintf("%+v", x) }

// want checks Unfold, and the text of the body.
func want(t *testing.T, m api.Module, k int, body string) {
	t.Helper()
	n, e := check(t, m, k)
	if got := textOf(n.Body); e != api.OK || got != body {
		t.Errorf("for k = %d the body is\n%s\nwith the error %d, not\n%s", k, got, e, body)
	}
	if e == api.OK && !core.Straight(n) {
		t.Errorf("for k = %d the unfolding is not straight", k)
	}
}

const coin = " from 0: [1/2 1/2]; "

// The example of the chapter.
func TestExample(t *testing.T) {
	m := api.Module{Cells: []api.Cell{small}, Body: []api.Cmd{loop(node(api.FoEq, variable(0), num(0)), flip(0))}}
	m.Type = api.Type{Kind: api.TypeTuple}
	m.Outs, m.Type = []int{0}, api.Type{Kind: api.TypeInt, Low: -2, High: 3}
	want(t, m, 2, "if (= v0 0) {draw@0 v0"+coin+"if (= v0 0) {draw@1 v0"+coin+"if (= v0 0) {cut; } {} } {} } {} ")
}

func TestLoops(t *testing.T) {
	once := module(nil, loop(not(variable(0)), flip(0)), set(0, num(1)))
	want(t, once, 0, "if (! v0) {cut; } {} set [v0] [1]; ")
	want(t, once, 1, "if (! v0) {draw@0 v0"+coin+"if (! v0) {cut; } {} } {} set [v0] [1]; ")
	want(t, module(nil, loop(variable(0))), 2, "if v0 {if v0 {if v0 {cut; } {} } {} } {} ")
	inner := module(nil, loop(variable(0), loop(variable(1), observe(num(1))), cut))
	want(t, inner, 0, "if v0 {cut; } {} ")
	want(t, inner, 1, "if v0 {if v1 {observe 1; if v1 {cut; } {} } {} cut; if v0 {cut; } {} } {} ")
	branches := module(nil, branch(variable(1), []api.Cmd{loop(variable(0))}, []api.Cmd{cut, loop(num(1), flip(1))}))
	want(t, branches, 0, "if v1 {if v0 {cut; } {} } {cut; if 1 {cut; } {} } ")
	want(t, branches, 1, "if v1 {if v0 {if v0 {cut; } {} } {} } {cut; if 1 {draw@0 v1"+coin+"if 1 {cut; } {} } {} } ")
	for k := range api.MaxUnfold + 1 {
		check(t, once, k)
		check(t, inner, k)
		check(t, branches, k)
	}
}

func TestCalls(t *testing.T) {
	// A procedure with a parameter, a result, and a third variable, which calls itself.
	p := api.Proc{Cells: []api.Cell{small, truth, truth}, Args: 1, Outs: []int{1}, Body: []api.Cmd{flip(1), branch(node(api.FoLt, num(0), variable(0)), []api.Cmd{call(0, []int{2}, node(api.FoSub, variable(0), variable(2)))}, nil)}}
	m := module([]api.Proc{p}, call(0, []int{0}, variable(1)))
	want(t, m, 0, "cut; ")
	want(t, m, 1, "set [v2] [v1]; set [v3 v4] [0 0]; draw@0 v3"+coin+"if (< 0 v2) {cut; } {} set [v0] [v3]; ")
	want(t, m, 2, "set [v2] [v1]; set [v3 v4] [0 0]; draw@0 v3"+coin+"if (< 0 v2) {set [v5] [(- v2 v4)]; set [v6 v7] [0 0]; draw@1 v6"+coin+"if (< 0 v5) {cut; } {} set [v4] [v6]; } {} set [v0] [v3]; ")
	// A procedure without parameters, one without other variables, one with several results.
	l := []api.Proc{
		{Cells: []api.Cell{small, truth}, Outs: []int{1}},
		{Cells: []api.Cell{small, truth}, Args: 2, Outs: []int{0}},
		{Cells: []api.Cell{truth, small}, Args: 1, Outs: []int{1, 0, 1}},
	}
	m = module(l, call(0, []int{1}), call(1, []int{0}, num(5), variable(0)), call(2, []int{2, 0, 1}, not(variable(1))))
	m.Cells = append(m.Cells, truth)
	want(t, m, 1, "set [v3 v4] [0 0]; set [v1] [v4]; set [v5 v6] [5 v0]; set [v0] [v5]; set [v7] [(! v1)]; set [v8] [0]; set [v2 v0 v1] [v8 v7 v8]; ")
	want(t, m, 0, "cut; cut; cut; ")
	for k := range api.MaxUnfold + 1 {
		check(t, m, k)
	}
}

// The frames are in the order of the text, and calls of the same procedure at the same depth share one. Calls of a procedure at different depths do not.
func TestFrames(t *testing.T) {
	one, two := []api.Cell{truth}, []api.Cell{truth, small}
	l := []api.Proc{procedure(one, 0, call(1, []int{0})), procedure(two, 0), procedure([]api.Cell{small, small, truth}, 1, call(1, []int{1}), call(0, []int{0}))}
	m := module(l, call(2, []int{0}, num(1)), call(1, []int{1}), call(0, []int{0}), call(2, []int{0}, num(2)))
	n, e := check(t, m, 3)
	if cells := slices.Concat(m.Cells, l[2].Cells, two, one, two, two, one); e != api.OK || !slices.Equal(n.Cells, cells) {
		t.Errorf("the cells are %v with the error %d, not %v", n.Cells, e, cells)
	}
	want(t, m, 1, "set [v2] [1]; set [v3 v4] [0 0]; cut; cut; set [v0] [v4]; set [v5 v6] [0 0]; set [v1] [v6]; set [v7] [0]; cut; set [v0] [v7]; set [v2] [2]; set [v3 v4] [0 0]; cut; cut; set [v0] [v4]; ")
	// Frames in both bodies of a condition, in a loop, and behind them.
	m = module(l, branch(num(1), []api.Cmd{call(1, []int{1})}, []api.Cmd{call(0, []int{0})}), loop(num(1), call(1, []int{0}), loop(num(0), call(2, []int{0}, num(1)))), call(0, []int{1}))
	for k := range api.MaxUnfold + 1 {
		check(t, m, k)
	}
	n, e = check(t, m, 1)
	if cells := slices.Concat(m.Cells, two, one, l[2].Cells); e != api.OK || !slices.Equal(n.Cells, cells) {
		t.Errorf("the cells are %v with the error %d, not %v", n.Cells, e, cells)
	}
	// Two procedures that are equal have frames of their own.
	m = module([]api.Proc{l[1], l[1]}, call(1, []int{0}), call(0, []int{0}))
	want(t, m, 1, "set [v2 v3] [0 0]; set [v0] [v3]; set [v4 v5] [0 0]; set [v0] [v5]; ")
}

// A module that has natural and real numbers and parameters is unfolded, too. Results are in normal form, and only draws have sites.
func TestOtherModules(t *testing.T) {
	p := api.Poly{{Mono: api.Mono{1}, Coef: api.Rat{Num: []uint32{2, 0}, Den: []uint32{4}}}, {Coef: api.Rat{Neg: true}}}
	q, _ := polynomial.Sub(constant(1, 1), p)
	half := api.Rat{Num: []uint32{3}, Den: []uint32{6, 0}}
	number := procedure([]api.Cell{truth}, 0, draw(0, table(0, p, q)), cut)
	m := api.Module{Params: 2, Cells: []api.Cell{real, natural, truth}, Procs: []api.Proc{number}, Outs: []int{0}, Type: api.Type{Kind: api.TypeReal}}
	m.Body = []api.Cmd{
		draw(0, api.Dist{Kind: api.DistInterval, From: api.Rat{Neg: true}, To: half}),
		loop(node(api.FoLt, variable(0), api.Form{Op: api.FoRat, Rat: half}), draw(1, api.Dist{Kind: api.DistGeometric, From: half}), set(0, node(api.FoMul, variable(0), api.Form{Op: api.FoRat, Rat: half}))),
		draw(0, api.Dist{Kind: api.DistBeta, Low: 2, High: 3}),
		call(0, []int{1}),
	}
	for i := range m.Body {
		m.Body[i].Site = 7 - i
	}
	m.Body[1].Then[1].Site = 9
	want(t, m, 1, "draw@0 v0 interval 0 1/2; if (< v0 1/2) {draw@1 v1 geometric 1/2; set [v0] [(* v0 1/2)]; if (< v0 1/2) {cut; } {} } {} draw@2 v0 beta 2 3; set [v3] [0]; draw@3 v3 from 0: [1/2*p -1/2*p + 1]; cut; set [v1] [v3]; ")
	n, _ := unfold.Unfold(m, 1)
	d := n.Body[0].Dist
	if !same(d, api.Dist{Kind: api.DistInterval, From: rational.Int(0), To: ratio(1, 2)}) || !same(n.Body[1].Form.Args[1].Rat, ratio(1, 2)) || !same(n.Body[4].Dist.Weights[0], api.Poly{{Mono: api.Mono{1}, Coef: ratio(1, 2)}}) {
		t.Errorf("%+v is not in normal form", n)
	}
	for k := range api.MaxUnfold + 1 {
		check(t, m, k)
	}
}

// lowered returns the module of a program.
func lowered(t *testing.T, s string) api.Module {
	t.Helper()
	p, at, e := parser.Parse(s)
	if e != api.OK {
		t.Fatalf("%s: the error at %v is %d", s, at, e)
	}
	m, e := lower.Lower(p)
	if e != api.OK {
		t.Fatalf("%s: the error of Lower is %d", s, e)
	}
	return m
}

// spoilt has an error of Validate if it has one here, and a draw from a nested module in a place.
func spoilt(place int, error api.Errno) api.Module {
	l := []api.Cmd{draw(0, nestedDraw(0))}
	m := module([]api.Proc{procedure([]api.Cell{truth}, 0), procedure([]api.Cell{truth}, 1)})
	m.Nested = []api.Module{module(nil, flip(0))}
	switch place {
	case 0:
		m.Body = l
	case 1:
		m.Procs[0].Body = l
	case 2:
		m.Procs[1].Body = l
	case 3:
		m.Body = []api.Cmd{branch(num(0), nil, []api.Cmd{loop(num(0), l...)})}
	case 4:
		m.Procs[1].Body = []api.Cmd{branch(num(0), []api.Cmd{loop(num(0), l...)}, nil)}
	case 5: // this one is none: it stands in a nested module
		m.Nested = append(m.Nested, module(nil, l...))
	}
	switch error {
	case api.ErrForm:
		m.Outs = nil
	case api.ErrLimit:
		m.Cells = slices.Repeat([]api.Cell{truth}, api.MaxCells+1)
	}
	return m
}

func TestErrors(t *testing.T) {
	for _, k := range []int{-1 << 63, -1, 0, 1, 12, 13, 1<<63 - 1} {
		for place := range 7 {
			for _, e := range []api.Errno{api.ErrLimit, api.ErrForm, api.OK} {
				m := spoilt(place, e)
				code := e
				switch {
				case e == api.OK && (k < 0 || k > 12):
					code = api.ErrRange
				case e == api.OK && place < 5:
					code = api.ErrClass
				}
				if _, got := check(t, m, k); got != code {
					t.Errorf("the error for k = %d, the place %d and the error %d of Validate is %d, not %d", k, place, e, got, code)
				}
				// An unfolding that is too large is the last error.
				m.Body = append(m.Body, loop(num(1), slices.Repeat([]api.Cmd{flip(0)}, 65)...))
				if code == api.OK && k > 0 {
					code = api.ErrLimit
				}
				if _, got := check(t, m, k); got != code {
					t.Errorf("the error for k = %d, the place %d, the error %d of Validate and many draws is %d, not %d", k, place, e, got, code)
				}
			}
		}
	}
}
