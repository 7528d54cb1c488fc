package core_test

import (
	"fmt"
	"slices"
	"testing"

	"exactppl/api"
	"exactppl/core"
	"exactppl/polynomial"
	"exactppl/rational"
)

// each returns what change returns for each element of l.
func each[A, B any](l []A, change func(A) B) []B {
	var changed []B
	for _, x := range l {
		changed = append(changed, change(x))
	}
	return changed
}

func show(x any) string { return fmt.Sprint(x) }

func num(n int) api.Form { return api.Form{Op: api.FoInt, Int: n} }

func variable(i int) api.Form { return api.Form{Op: api.FoVar, Int: i} }

func fraction(num, den int) api.Form { return api.Form{Op: api.FoRat, Rat: ratio(num, den)} }

func node(op int, args ...api.Form) api.Form { return api.Form{Op: op, Args: args} }

func set(i int, f api.Form) api.Cmd {
	return api.Cmd{Kind: api.CmdSet, Outs: []int{i}, Args: []api.Form{f}}
}

func setAll(outs []int, args ...api.Form) api.Cmd {
	return api.Cmd{Kind: api.CmdSet, Outs: outs, Args: args}
}

func draw(i int, d api.Dist) api.Cmd { return api.Cmd{Kind: api.CmdDraw, Var: i, Dist: d} }

func observe(f api.Form) api.Cmd { return api.Cmd{Kind: api.CmdObserve, Form: f} }

func branch(f api.Form, yes, no []api.Cmd) api.Cmd {
	return api.Cmd{Kind: api.CmdIf, Form: f, Then: yes, Else: no}
}

func loop(f api.Form, l ...api.Cmd) api.Cmd { return api.Cmd{Kind: api.CmdWhile, Form: f, Then: l} }

func call(p int, outs []int, args ...api.Form) api.Cmd {
	return api.Cmd{Kind: api.CmdCall, Var: p, Outs: outs, Args: args}
}

var cut = api.Cmd{Kind: api.CmdCut}

func ratio(num, den int) api.Rat {
	r, _ := rational.New(num, den)
	return r
}

func constant(num, den int) api.Poly { return polynomial.Const(ratio(num, den)) }

// table has the outcomes from low on.
func table(low int, weights ...api.Poly) api.Dist {
	return api.Dist{Kind: api.DistTable, Low: low, Weights: weights}
}

// fair has n outcomes from 0 on.
func fair(n int) api.Dist { return table(0, slices.Repeat([]api.Poly{constant(1, n)}, n)...) }

// monomial is c times the product of the powers of the parameters.
func monomial(c api.Rat, exponents ...int) api.Poly {
	t := api.Term{Coef: c}
	copy(t.Mono[:], exponents)
	return api.Poly{t}
}

// rest returns 1 minus the polynomials.
func rest(l ...api.Poly) api.Poly {
	p := constant(1, 1)
	for _, q := range l {
		p, _ = polynomial.Sub(p, q)
	}
	return p
}

var (
	truth   = api.Cell{Kind: api.TypeBool, High: 1}
	small   = api.Cell{Kind: api.TypeInt, Low: -2, High: 3}
	natural = api.Cell{Kind: api.TypeNat}
	real    = api.Cell{Kind: api.TypeReal}
	boolean = api.Type{Kind: api.TypeBool}
)

// module has the result in the variable 0, which is bool.
func module(cells []api.Cell, l ...api.Cmd) api.Module {
	return api.Module{Cells: cells, Body: l, Outs: []int{0}, Type: boolean}
}

// nested is a module that another one can contain.
func nested(l ...api.Cmd) api.Module { return module([]api.Cell{truth, small}, l...) }

// rich has all kinds of commands, distributions and blocks. It is valid.
func rich() api.Module {
	return api.Module{
		Params: 2,
		Cells:  []api.Cell{truth, small, natural, real, {Kind: api.TypeInt, Low: 0, High: 2}, truth, truth},
		Procs: []api.Proc{
			{Cells: []api.Cell{truth, small}, Args: 1, Outs: []int{1, 1}, Body: []api.Cmd{set(1, variable(0)), call(1, []int{0}, num(3), variable(1)), draw(1, api.Dist{Kind: api.DistNested, Low: 1})}},
			{Cells: []api.Cell{small, truth}, Args: 2, Outs: []int{0}, Body: []api.Cmd{draw(0, table(-1, monomial(ratio(1, 2), 1), rest(monomial(ratio(1, 2), 1)))), cut, loop(variable(1), cut)}},
		},
		Nested: []api.Module{nested(draw(0, fair(2)), observe(variable(0))), nested(draw(1, api.Dist{Kind: api.DistNested}), branch(variable(1), []api.Cmd{set(0, num(1))}, nil))},
		Body: []api.Cmd{
			draw(1, table(-2, constant(1, 3), monomial(ratio(1, 1), 1, 2), rest(constant(1, 3), monomial(ratio(1, 1), 1, 2)))),
			draw(2, api.Dist{Kind: api.DistGeometric, From: ratio(1, 4)}),
			draw(3, api.Dist{Kind: api.DistInterval, From: ratio(-1, 2), To: ratio(1, 3)}),
			draw(3, api.Dist{Kind: api.DistBeta, Low: 2, High: 3}),
			draw(0, api.Dist{Kind: api.DistNested, Low: 1}),
			setAll([]int{3, 1}, node(api.FoMul, fraction(2, 3), node(api.FoAdd, variable(3), variable(1))), node(api.FoCond, variable(0), num(-1), node(api.FoNot, variable(2)))),
			branch(node(api.FoLt, variable(3), fraction(1, 2)), []api.Cmd{draw(5, fair(2))}, []api.Cmd{draw(5, table(1, constant(1, 1))), loop(node(api.FoLe, variable(1), num(0)), draw(1, fair(3)))}),
			observe(node(api.FoOr, variable(0), node(api.FoEq, variable(1), num(7)))),
			call(0, []int{1, 0}, node(api.FoAnd, variable(0), variable(6))),
		},
		Outs: []int{4, 5, 6},
		Type: api.Type{Kind: api.TypeList, Max: 2, Elems: []api.Type{boolean}},
	}
}

// checkError checks the error of Validate.
func checkError(t *testing.T, what string, m api.Module, want api.Errno) {
	t.Helper()
	if e := core.Validate(m); e != want {
		t.Errorf("%.300s: the error is %d, not %d", what, e, want)
	}
}

// checkModule checks the error of Validate, and that all functions with an error of their own return it first.
func checkModule(t *testing.T, what string, m api.Module, want api.Errno) {
	t.Helper()
	checkError(t, what, m, want)
	if want == api.OK {
		return
	}
	if core.Straight(m) {
		t.Errorf("%s: it is straight", what)
	}
	if class, e := core.Class(m); class != 0 || e != want {
		t.Errorf("%s: Class is %d with the error %d", what, class, e)
	}
	if l, e := core.Sites(m); len(l) > 0 || e != want {
		t.Errorf("%s: Sites is %v with the error %d", what, l, e)
	}
	if n, e := core.Number(m); !same(n, api.Module{}) || e != want {
		t.Errorf("%s: Number is %v with the error %d", what, n, e)
	}
	for _, x := range [][]api.Rat{nil, make([]api.Rat, max(0, min(m.Params, 9))), {ratio(-1, 1)}} {
		if n, e := core.At(m, x); !same(n, api.Module{}) || e != want {
			t.Errorf("%s: At is %v with the error %d", what, n, e)
		}
	}
}

// The example of the chapter.
func TestExample(t *testing.T) {
	if n, e := core.Eval(node(api.FoAdd, num(1073741824), num(5)), nil); n != 1073741824 || e != api.OK {
		t.Errorf("the value is %d with the error %d", n, e)
	}
}

func TestRichModule(t *testing.T) {
	checkModule(t, "the module with everything", rich(), api.OK)
	for i, n := range rich().Nested {
		n.Body = slices.DeleteFunc(n.Body, func(c api.Cmd) bool { return c.Dist.Kind == api.DistNested })
		checkModule(t, fmt.Sprint("its nested module ", i), n, api.OK)
	}
}
