package nested_test

import (
	"fmt"
	"slices"
	"strings"
	"testing"

	"exactppl/api"
	"exactppl/core"
	"exactppl/nested"
	"exactppl/polynomial"
	"exactppl/rational"
)

// each returns what change returns for each element of l.
func each[A, B any](l []A, change func(A) B) []B {
	var changed []B
	for _, x := range l {
		changed = append(changed, change(x))
	}
	return changed
}

func num(n int) api.Form { return api.Form{Op: api.FoInt, Int: n} }

func variable(i int) api.Form { return api.Form{Op: api.FoVar, Int: i} }

func node(op int, args ...api.Form) api.Form { return api.Form{Op: op, Args: args} }

func not(f api.Form) api.Form { return node(api.FoNot, f) }

func isEqual(i, n int) api.Form { return node(api.FoEq, variable(i), num(n)) }

func set(i int, f api.Form) api.Cmd { return setAll([]int{i}, f) }

func setAll(outs []int, args ...api.Form) api.Cmd {
	return api.Cmd{Kind: api.CmdSet, Outs: outs, Args: args}
}

func draw(i int, d api.Dist) api.Cmd { return api.Cmd{Kind: api.CmdDraw, Var: i, Dist: d} }

// from draws a variable from a nested module.
func from(i, query int) api.Cmd {
	return draw(i, api.Dist{Kind: api.DistNested, Low: query})
}

func observe(f api.Form) api.Cmd { return api.Cmd{Kind: api.CmdObserve, Form: f} }

func branch(f api.Form, yes, no []api.Cmd) api.Cmd {
	return api.Cmd{Kind: api.CmdIf, Form: f, Then: yes, Else: no}
}

func loop(f api.Form, l ...api.Cmd) api.Cmd {
	return api.Cmd{Kind: api.CmdWhile, Form: f, Then: l}
}

func call(proc int, outs []int, args ...api.Form) api.Cmd {
	return api.Cmd{Kind: api.CmdCall, Var: proc, Outs: outs, Args: args}
}

var cut = api.Cmd{Kind: api.CmdCut}

func fraction(s string) api.Rat {
	r, e := rational.Parse(s)
	if e != api.OK {
		panic(s)
	}
	return r
}

func constant(s string) api.Poly { return polynomial.Const(fraction(s)) }

// table has the outcomes from low on, with weights that are fractions.
func table(low int, weights ...string) api.Dist {
	return api.Dist{Kind: api.DistTable, Low: low, Weights: each(weights, constant)}
}

// flip draws a variable, which is 1 with a probability.
func flip(i int, p string) api.Cmd {
	return draw(i, table(0, rational.Format(rational.Sub(rational.Int(1), fraction(p))), p))
}

// fair draws a variable from n outcomes.
func fair(i, n int) api.Cmd {
	return draw(i, table(0, slices.Repeat([]string{fmt.Sprint("1/", n)}, n)...))
}

var (
	truth   = api.Cell{Kind: api.TypeBool, High: 1}
	small   = api.Cell{Kind: api.TypeInt, Low: -2, High: 3}
	digit   = api.Cell{Kind: api.TypeInt, High: 9}
	natural = api.Cell{Kind: api.TypeNat}
	real    = api.Cell{Kind: api.TypeReal}
)

func integer(low, high int) api.Cell { return api.Cell{Kind: api.TypeInt, Low: low, High: high} }

// typeOf returns the type whose only cell is c.
func typeOf(c api.Cell) api.Type {
	t := api.Type{Kind: c.Kind}
	if c.Kind == api.TypeInt {
		t.Low, t.High = c.Low, c.High
	}
	return t
}

// query has the result in the variable 0.
func query(cells []api.Cell, l ...api.Cmd) api.Module {
	return api.Module{Cells: cells, Body: l, Outs: []int{0}, Type: typeOf(cells[0])}
}

// drawing has queries and draws from each of them.
func drawing(queries ...api.Module) api.Module {
	m := query([]api.Cell{truth})
	m.Nested = queries
	for i := range queries {
		m.Body = append(m.Body, from(0, i))
	}
	return m
}

// text writes a distribution: its kind, its first outcome, and its weights.
func text(d api.Dist) string {
	weights := each(d.Weights, func(p api.Poly) string {
		s, e := polynomial.Format(p, nil)
		if e != api.OK {
			return fmt.Sprint("error ", e)
		}
		return s
	})
	return fmt.Sprintf("%d from %d: %s", d.Kind, d.Low, strings.Join(weights, " "))
}

// wantTables checks the tables of queries.
func wantTables(t *testing.T, what string, queries []api.Module, want ...string) {
	t.Helper()
	m := drawing(queries...)
	check(t, m)
	n, e := nested.Resolve(m)
	if e != api.OK || len(n.Nested) > 0 {
		t.Errorf("%s: the error of Resolve is %d, there are %d nested modules", what, e, len(n.Nested))
		return
	}
	for i, c := range n.Body {
		if got := text(c.Dist); got != "1 from "+want[i] {
			t.Errorf("%s: the table %d is %s, not 1 from %s", what, i, got, want[i])
		}
	}
}

func TestExample(t *testing.T) {
	q := query([]api.Cell{truth, truth}, flip(0, "1/2"), flip(1, "1/2"), observe(node(api.FoOr, variable(0), variable(1))))
	wantTables(t, "the example", []api.Module{q}, "0: 1/3 2/3")
}

// There is a weight for each value of the type, in ascending order.
func TestTables(t *testing.T) {
	for _, c := range []struct {
		query api.Module
		want  string
	}{
		{query([]api.Cell{truth}), "0: 1 0"},
		{query([]api.Cell{truth}, set(0, num(7))), "0: 0 1"},
		{query([]api.Cell{truth}, flip(0, "1/4")), "0: 3/4 1/4"},
		{query([]api.Cell{truth}, flip(0, "0")), "0: 1 0"},
		{query([]api.Cell{truth}, draw(0, table(-1, "1/4", "1/4", "1/2"))), "0: 1/4 3/4"},
		{query([]api.Cell{truth, truth}, flip(0, "1/3"), flip(1, "1/2"), observe(node(api.FoOr, variable(0), variable(1)))), "0: 1/2 1/2"},
		{query([]api.Cell{truth, truth}, flip(0, "1/1000"), branch(variable(0), []api.Cmd{flip(1, "999/1000")}, []api.Cmd{flip(1, "1/1000")}), observe(variable(1))), "0: 1/2 1/2"},
		{query([]api.Cell{small}), "-2: 0 0 1 0 0 0"},
		{query([]api.Cell{small}, draw(0, table(-7, "1/2", "0", "1/4", "1/4"))), "-2: 1 0 0 0 0 0"},
		{query([]api.Cell{small}, draw(0, table(-4, "1/4", "1/8", "1/8", "0", "1/3", "1/6"))), "-2: 1/2 0 1/3 1/6 0 0"},
		{query([]api.Cell{small, truth}, fair(0, 4), flip(1, "1/3"), branch(variable(1), []api.Cmd{set(0, node(api.FoSub, num(1), variable(0)))}, nil)), "-2: 1/12 1/12 1/4 1/4 1/6 1/6"},
		{query([]api.Cell{small}, draw(0, table(-2, "1/6", "1/6", "1/6", "1/6", "1/6", "1/6")), observe(variable(0))), "-2: 1/5 1/5 0 1/5 1/5 1/5"},
		{query([]api.Cell{integer(5, 5)}, fair(0, 3)), "5: 1"},
		{query([]api.Cell{integer(-1, -1)}, fair(0, 3)), "-1: 1"},
		{query([]api.Cell{integer(0, 0)}, flip(0, "1/7")), "0: 1"},
		{query([]api.Cell{integer(-1000, -985)}, draw(0, table(-1000, slices.Repeat([]string{"1/16"}, 16)...))), "-1000: 1/16 1/16 1/16 1/16 1/16 1/16 1/16 1/16 1/16 1/16 1/16 1/16 1/16 1/16 1/16 1/16"},
		{query([]api.Cell{integer(985, 1000)}, draw(0, table(1000, "1"))), "985: 0 0 0 0 0 0 0 0 0 0 0 0 0 0 0 1"},
		{query([]api.Cell{integer(985, 1000)}), "985: 1 0 0 0 0 0 0 0 0 0 0 0 0 0 0 0"},
		{query([]api.Cell{integer(-8, 7)}, draw(0, table(-1000, "1/3", "2/3"))), "-8: 1 0 0 0 0 0 0 0 0 0 0 0 0 0 0 0"},
		{query([]api.Cell{integer(-1, 1), small}, fair(1, 4), setAll([]int{0, 1}, node(api.FoSub, variable(1), num(2)), num(0))), "-1: 1/2 1/4 1/4"},
		{query([]api.Cell{digit, digit}, fair(0, 10), fair(1, 10), observe(node(api.FoEq, node(api.FoAdd, variable(0), variable(1)), num(16)))), "0: 0 0 0 0 0 0 0 1/3 1/3 1/3"},
	} {
		wantTables(t, fmt.Sprintf("the query %+v", c.query), []api.Module{c.query}, c.want)
	}
	// The result need not be the first cell.
	q := api.Module{Cells: []api.Cell{digit, small, truth}, Body: []api.Cmd{fair(0, 3), flip(2, "1/5"), set(1, node(api.FoAdd, variable(0), variable(2)))}, Outs: []int{1}, Type: typeOf(small)}
	wantTables(t, "the result of the variable 1", []api.Module{q}, "-2: 0 0 4/15 1/3 1/3 1/15")
}

// Queries draw from those before them.
func TestChains(t *testing.T) {
	first := query([]api.Cell{truth}, flip(0, "1/3"))
	number := query([]api.Cell{small}, draw(0, table(-2, "1/8", "0", "3/8", "0", "0", "1/2")))
	both := query([]api.Cell{truth, small}, from(0, 0), from(1, 1), observe(node(api.FoOr, variable(0), isEqual(1, 0))))
	deep := query([]api.Cell{small, truth}, from(1, 0), branch(variable(1), []api.Cmd{from(0, 1), branch(isEqual(0, 3), nil, []api.Cmd{from(1, 2)})}, []api.Cmd{from(0, 2)}), observe(node(api.FoLt, variable(0), num(3))))
	wantTables(t, "a chain", []api.Module{first, number, both, deep},
		"0: 2/3 1/3", "-2: 1/8 0 3/8 0 0 1/2",
		"0: 3/7 4/7",                  // 2/3 3/8 and 1/3
		"-2: 1/20 0 69/140 16/35 0 0") // 1/3 1/8; 1/3 3/8 and 2/3 3/7; 2/3 4/7

	// Each one draws the result of the one before it twice.
	var l []api.Module
	var want []string
	for i := range api.MaxFuncs {
		if i == 0 {
			l = append(l, first)
		} else {
			l = append(l, query([]api.Cell{truth, truth}, from(0, i-1), from(1, i-1), observe(node(api.FoEq, variable(0), variable(1)))))
		}
		power := 1 << (1 << i) // the odds are 2 to the power 2^i
		if i < 5 {
			want = append(want, fmt.Sprintf("0: %d/%d 1/%d", power, power+1, power+1))
		}
	}
	wantTables(t, "squares", l[:5], want...)
	check(t, drawing(l...))
	n, e := nested.Resolve(drawing(l...))
	if e != api.OK || !strings.HasSuffix(text(n.Body[7].Dist), " 1/340282366920938463463374607431768211457") {
		t.Errorf("the last table is %s, the error is %d", text(n.Body[7].Dist), e)
	}
}

// places is a module with draws from queries in all places where draws can be.
func places() api.Module {
	p, _ := polynomial.Var(1)
	q, _ := polynomial.Sub(constant("1"), p)
	half := api.Rat{Num: []uint32{3, 0}, Den: []uint32{6}} // not in normal form
	body := []api.Cmd{
		{Kind: api.CmdDraw, Var: 0, Site: 70, Dist: api.Dist{Kind: api.DistNested, Low: 1}},
		{Kind: api.CmdDraw, Var: 0, Site: 3, Dist: api.Dist{Kind: api.DistTable, Low: -2, Weights: []api.Poly{append(slices.Clone(q), api.Term{Coef: half}), append(slices.Clone(p), api.Term{Coef: rational.Neg(half)})}}},
		branch(node(api.FoLt, variable(3), api.Form{Op: api.FoRat, Rat: half}), []api.Cmd{from(1, 0), from(1, 0)}, []api.Cmd{observe(variable(0)), from(0, 0), cut}),
		loop(not(variable(0)), from(0, 0), branch(variable(0), nil, []api.Cmd{loop(num(0), from(2, 1))})),
		draw(3, api.Dist{Kind: api.DistInterval, From: rational.Neg(half), To: half}),
		draw(3, api.Dist{Kind: api.DistBeta, Low: 2, High: 6}),
		setAll([]int{3, 1}, node(api.FoMul, api.Form{Op: api.FoRat, Rat: half}, variable(3)), num(2)),
		call(1, []int{1, 0}, variable(2)),
	}
	return api.Module{
		Params: 3,
		Cells:  []api.Cell{truth, small, digit, real},
		Procs: []api.Proc{
			{Cells: []api.Cell{truth}, Outs: []int{0}, Body: []api.Cmd{from(0, 0), loop(variable(0), from(0, 1))}},
			{Cells: []api.Cell{digit, small}, Args: 1, Outs: []int{1, 0}, Body: []api.Cmd{{Kind: api.CmdDraw, Var: 1, Site: 5, Dist: api.Dist{Kind: api.DistNested, Low: 1}}, call(0, []int{1})}},
		},
		Nested: []api.Module{query([]api.Cell{truth}, flip(0, "1/4")), query([]api.Cell{small}, from(0, 0), set(0, node(api.FoSub, variable(0), num(2)))), query([]api.Cell{truth}, fair(0, 2))},
		Body:   body,
		Outs:   []int{1, 0},
		Type:   api.Type{Kind: api.TypeTuple, Elems: []api.Type{typeOf(small), typeOf(truth)}},
	}
}

// All draws from nested modules are replaced, also in procedures and inside other commands, and nothing else changes.
func TestPlaces(t *testing.T) {
	m := places()
	check(t, m)
	n, e := nested.Resolve(m)
	if e != api.OK || len(n.Nested) > 0 {
		t.Fatalf("the error is %d, there are %d nested modules", e, len(n.Nested))
	}
	for i, l := range [][]api.Dist{
		{n.Body[2].Then[0].Dist, n.Body[2].Then[1].Dist, n.Body[2].Else[1].Dist, n.Body[3].Then[0].Dist, n.Procs[0].Body[0].Dist},
		{n.Body[0].Dist, n.Body[3].Then[1].Else[0].Then[0].Dist, n.Procs[0].Body[1].Then[0].Dist, n.Procs[1].Body[0].Dist},
	} {
		for _, d := range l {
			if got, want := text(d), []string{"1 from 0: 3/4 1/4", "1 from -2: 3/4 1/4 0 0 0 0"}[i]; got != want {
				t.Errorf("a table is %s, not %s", got, want)
			}
		}
	}
	// With the same tables in the places of the draws the modules are equal.
	var place func(l []api.Cmd)
	place = func(l []api.Cmd) {
		for i, c := range l {
			if c.Dist.Kind == api.DistNested {
				l[i].Dist = []api.Dist{table(0, "3/4", "1/4"), table(-2, "3/4", "1/4", "0", "0", "0", "0")}[c.Dist.Low]
			}
			place(c.Then)
			place(c.Else)
		}
	}
	want := places()
	want.Nested = nil
	for _, l := range [][]api.Cmd{want.Body, want.Procs[0].Body, want.Procs[1].Body} {
		place(l)
	}
	if !core.Equal(n, want) || n.Body[0].Site != 70 || n.Procs[1].Body[0].Site != 5 {
		t.Errorf("the module is %+v, not %+v", n, want)
	}
}

// Modules without nested ones, and nested modules from which nothing is drawn.
func TestNothingToReplace(t *testing.T) {
	plain := []api.Module{
		query([]api.Cell{truth}),
		query([]api.Cell{natural, truth}, draw(0, api.Dist{Kind: api.DistGeometric, From: api.Rat{Num: []uint32{2}, Den: []uint32{4}}}), cut),
		query([]api.Cell{real}, draw(0, api.Dist{Kind: api.DistInterval, To: api.Rat{Num: []uint32{6}, Den: []uint32{4}}})),
	}
	for _, m := range plain {
		check(t, m)
		n, e := nested.Resolve(m)
		if e != api.OK || !core.Equal(n, m) {
			t.Errorf("Resolve of %+v is %+v with the error %d", m, n, e)
		}
		m.Nested = []api.Module{query([]api.Cell{digit}, fair(0, 9)), query([]api.Cell{digit}, from(0, 0))}
		check(t, m)
		if u, e := nested.Resolve(m); e != api.OK || !same(u, n) {
			t.Errorf("Resolve of %+v with nested modules is %+v with the error %d", m, u, e)
		}
	}
}

// disguises of the weights 1/2, 0, 1/2: not in lowest terms, with leading zeros, with terms whose sum is zero, with parts.
func disguises() [][]api.Poly {
	half, zero := api.Rat{Num: []uint32{3, 0}, Den: []uint32{6, 0, 0}}, api.Rat{Neg: true, Num: []uint32{5}}
	quarter := api.Rat{Num: []uint32{1}, Den: []uint32{4}}
	high := api.Mono{0, 0, 0, 0, 0, 0, 0, api.MaxExp}
	minus := api.Rat{Neg: true, Num: []uint32{2}, Den: []uint32{8}}
	return [][]api.Poly{
		{{{Coef: half}}, nil, {{Coef: half}}},
		{{{Coef: half}}, {{Coef: zero}}, {{Coef: quarter}, {Coef: quarter}}},
		{{{Coef: half}, {Coef: zero}}, {{Coef: quarter}, {Coef: minus}}, {{Mono: high, Coef: quarter}, {Coef: half}, {Mono: high, Coef: minus}}},
		{{{Mono: high, Coef: zero}, {Coef: quarter}, {Coef: half}, {Coef: minus}}, {{Mono: high, Coef: minus}, {Mono: high, Coef: quarter}}, {{Mono: api.Mono{1}}, {Coef: half}}},
	}
}

// Resolve goes by what the weights denote, and returns normal forms.
func TestRepresentations(t *testing.T) {
	d := table(0, "1/2", "0", "1/2")
	q := query([]api.Cell{integer(0, 3), truth}, draw(0, d), flip(1, "1/3"), observe(node(api.FoOr, variable(0), variable(1))))
	m := drawing(q)
	m.Body = append(m.Body, draw(0, d))
	want, e := nested.Resolve(m)
	if got := text(want.Body[0].Dist); e != api.OK || got != "1 from 0: 1/4 0 3/4 0" {
		t.Fatalf("the table is %s, the error is %d", got, e)
	}
	for _, weights := range disguises() {
		m := copyOf(m)
		m.Nested[0].Body[0].Dist.Weights, m.Body[1].Dist.Weights = weights, copyOf(weights)
		check(t, m)
		if n, e := nested.Resolve(m); e != api.OK || !same(n, want) {
			t.Errorf("Resolve of %+v is %+v with the error %d, not %+v", m, n, e, want)
		}
	}
}

// The sites of the draws stay as they are; those of nested modules do not matter.
func TestSites(t *testing.T) {
	m := drawing(query([]api.Cell{truth}, flip(0, "1/2"), flip(0, "1/3")))
	for i, site := range []int{-5, 1 << 40, 7, 7} {
		m.Body = append(m.Body, from(0, 0))
		m.Body[i].Site = site
		m.Nested[0].Body[i%2].Site = -site
	}
	check(t, m)
	n, e := nested.Resolve(m)
	if got := fmt.Sprint(each(n.Body, func(c api.Cmd) int { return c.Site })); e != api.OK || got != "[-5 1099511627776 7 7 0]" {
		t.Errorf("the sites are %s, the error is %d", got, e)
	}
}
