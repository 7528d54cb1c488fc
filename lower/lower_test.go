package lower_test

import (
	"fmt"
	"slices"
	"strings"
	"testing"

	"exactppl/api"
	"exactppl/lower"
	"exactppl/parser"
	"exactppl/polynomial"
	"exactppl/rational"
)

// show writes all fields of v, with nil and an empty list alike.
func show(v any) string { return fmt.Sprintf("%+v", v) }

// parse returns the program with the text s, which is one.
func parse(t *testing.T, s string) api.Program {
	t.Helper()
	p, pos, e := parser.Parse(s)
	if e != api.OK {
		t.Fatalf("Parse(%.300q) has the error %d at %v", s, e, pos)
	}
	return p
}

// moduleOf returns the module of the text s, which has one.
func moduleOf(t *testing.T, s string) api.Module {
	t.Helper()
	m, e := lower.Lower(parse(t, s))
	if e != api.OK {
		t.Fatalf("Lower(%.300q) has the error %d", s, e)
	}
	return m
}

// formText writes a form: the variables are v0, v1 and so on, and an operator stands in front of its arguments.
func formText(f api.Form) string {
	words := map[int]string{api.FoNot: "not", api.FoAnd: "and", api.FoOr: "or", api.FoEq: "eq", api.FoLt: "lt", api.FoLe: "le", api.FoAdd: "add", api.FoSub: "sub", api.FoMul: "mul", api.FoCond: "cond"}
	switch f.Op {
	case api.FoInt:
		return fmt.Sprint(f.Int)
	case api.FoRat:
		return "r" + rational.Format(f.Rat)
	case api.FoVar:
		return fmt.Sprint("v", f.Int)
	}
	return "(" + strings.Join(append([]string{words[f.Op]}, each(f.Args, formText)...), " ") + ")"
}

func each[A, B any](l []A, change func(A) B) []B {
	var changed []B
	for _, x := range l {
		changed = append(changed, change(x))
	}
	return changed
}

func distText(d api.Dist) string {
	switch d.Kind {
	case api.DistTable:
		return fmt.Sprintf("table %d: %s", d.Low, strings.Join(each(d.Weights, func(p api.Poly) string {
			s, _ := polynomial.Format(p, []string{"p", "q", "r"})
			return s
		}), ", "))
	case api.DistGeometric:
		return "geometric " + rational.Format(d.From)
	case api.DistInterval:
		return "interval " + rational.Format(d.From) + " " + rational.Format(d.To)
	case api.DistBeta:
		return fmt.Sprintf("beta %d %d", d.Low, d.High)
	}
	return fmt.Sprint("nested ", d.Low)
}

// bodyText writes commands. TestCommandFields checks the fields that it does not write.
func bodyText(l []api.Cmd) string {
	return strings.Join(each(l, func(c api.Cmd) string {
		args := strings.Join(each(c.Args, formText), " ")
		switch c.Kind {
		case api.CmdSet:
			return fmt.Sprintf("%v := %s", c.Outs, args)
		case api.CmdDraw:
			return fmt.Sprintf("v%d ~ %s", c.Var, distText(c.Dist))
		case api.CmdIf:
			return "if " + formText(c.Form) + " {" + bodyText(c.Then) + "} else {" + bodyText(c.Else) + "}"
		case api.CmdObserve:
			return "observe " + formText(c.Form)
		case api.CmdWhile:
			return "while " + formText(c.Form) + " {" + bodyText(c.Then) + "}"
		}
		return fmt.Sprintf("%v := %d(%s)", c.Outs, c.Var, args)
	}), "; ")
}

// checkBodies checks the commands of programs with these variables, the first of which is the result.
func checkBodies(t *testing.T, before string, bodies [][2]string) {
	t.Helper()
	result := strings.Fields(before[strings.Index(before, "var ")+4:])[0]
	for _, b := range bodies {
		s := before + b[0] + " return " + strings.Trim(result, ":") + ";"
		if got := bodyText(moduleOf(t, s).Body); got != b[1] {
			t.Errorf("%s becomes\n%s, not\n%s", s, got, b[1])
		}
	}
}

// The example of the document.

func TestExample(t *testing.T) {
	m := moduleOf(t, "var x: bool; x ~ flip(1/3); weight 1/2; return x;")
	truth := api.Cell{Kind: api.TypeBool, Low: 0, High: 1}
	constant := func(num, den int) api.Poly {
		r, _ := rational.New(num, den)
		return polynomial.Const(r)
	}
	want := api.Module{
		Cells: []api.Cell{truth, truth},
		Body: []api.Cmd{
			{Kind: api.CmdDraw, Var: 0, Dist: api.Dist{Kind: api.DistTable, Weights: []api.Poly{constant(2, 3), constant(1, 3)}}},
			{Kind: api.CmdDraw, Var: 1, Dist: api.Dist{Kind: api.DistTable, Weights: []api.Poly{constant(1, 2), constant(1, 2)}}},
			{Kind: api.CmdObserve, Form: api.Form{Op: api.FoVar, Int: 1}},
		},
		Outs: []int{0},
		Type: api.Type{Kind: api.TypeBool},
	}
	if show(m) != show(want) {
		t.Errorf("the module is %+v, not %+v", m, want)
	}
}

// P12.1: the errors of Check come first

func TestErrorsOfCheck(t *testing.T) {
	tooMany := strings.Repeat("repeat 8 { ", 4) + "x := x; " + strings.Repeat("} ", 4)
	for _, c := range []struct {
		s    string
		want api.Errno
	}{
		{"var x: bool; return y;", api.ErrName},
		{"param p; param p; var x: bool; return x;", api.ErrName},
		{"var x: int[2, 1]; return x;", api.ErrRange},
		{"var x: list[5] bool; return x;", api.ErrRange},
		{"var x: bool; x ~ flip(2); return x;", api.ErrRange},
		{"var x: int[0, 9]; x ~ table(0; 1/2); return x;", api.ErrRange},
		{"var x: bool; x := 1; return x;", api.ErrType},
		{"var x: bool; x := !1; return x;", api.ErrType},
		{"func f() { var x: bool; return x; } var x: int[0, 1]; x := f(); return x;", api.ErrType},
		{"var x: real; var b: bool; b := x == x; return x;", api.ErrMeasure},
		{"var x: real; var n: nat; return x;", api.ErrClass},
		{"query k { var x: bool; while x { } return x; } var x: bool; return x;", api.ErrClass},
		{"param p; query k { var x: bool; weight p; return x; } var x: bool; return x;", api.ErrClass},
		{"var x: bool; repeat 9 { } return x;", api.ErrLimit},
		{"var x: bool; " + tooMany + "return x;", api.ErrLimit},
		{"var x: bool; " + tooMany + "return y;", api.ErrName},
		{"func f() { var x: bool; " + tooMany + "return x; } var x: bool; x := 2; return x;", api.ErrType},
		{"var x: bool; x := " + strings.Repeat("!", 300) + "x; x := !1; return x;", api.ErrType},
		{"var x: bool; " + strings.Repeat("weight 1; ", 500) + "weight 2; return x;", api.ErrRange},
	} {
		if m, e := lower.Lower(parse(t, c.s)); e != c.want || show(m) != show(api.Module{}) {
			t.Errorf("Lower(%.200q) is %d with %+v, not %d", c.s, e, m, c.want)
		}
	}
	x := []api.Decl{{Name: "x", Type: api.Type{Kind: api.TypeBool}}}
	for _, p := range []api.Program{{}, {Vars: x}, {Vars: x, Result: "x", Body: []api.Stmt{{}}}, {Vars: x, Result: "x", Body: []api.Stmt{{Kind: api.StObserve}}}, {Vars: []api.Decl{{Name: "x"}}, Result: "x"}, {Params: []string{"if"}, Vars: x, Result: "x"}} {
		if m, e := lower.Lower(p); e != api.ErrForm || show(m) != show(api.Module{}) {
			t.Errorf("Lower(%+v) is %d with %+v, not ErrForm", p, e, m)
		}
	}
}

// P12.2: cells, procedures and nested modules

func TestCells(t *testing.T) {
	m := moduleOf(t, "var b: bool; var i: int[-3, 5]; var t: (bool, list[2] int[1, 4], (int[7, 7], bool)); var l: list[3] bool; return t;")
	truth, length := api.Cell{Kind: api.TypeBool, High: 1}, api.Cell{Kind: api.TypeInt, High: 2}
	element := api.Cell{Kind: api.TypeInt, Low: 1, High: 4}
	cells := []api.Cell{truth, {Kind: api.TypeInt, Low: -3, High: 5}, truth, length, element, element, {Kind: api.TypeInt, Low: 7, High: 7}, truth, {Kind: api.TypeInt, High: 3}, truth, truth, truth}
	if !slices.Equal(m.Cells, cells) || !slices.Equal(m.Outs, []int{2, 3, 4, 5, 6, 7}) {
		t.Error("the cells are", m.Cells, "with the result in", m.Outs)
	}
	inner := api.Type{Kind: api.TypeTuple, Elems: []api.Type{{Kind: api.TypeInt, Low: 7, High: 7}, {Kind: api.TypeBool}}}
	list := api.Type{Kind: api.TypeList, Max: 2, Elems: []api.Type{{Kind: api.TypeInt, Low: 1, High: 4}}}
	if want := (api.Type{Kind: api.TypeTuple, Elems: []api.Type{{Kind: api.TypeBool}, list, inner}}); show(m.Type) != show(want) {
		t.Errorf("the type is %+v, not %+v", m.Type, want)
	}
	m = moduleOf(t, "var n: nat; var b: bool; var k: nat; return k;")
	if !slices.Equal(m.Cells, []api.Cell{{Kind: api.TypeNat}, truth, {Kind: api.TypeNat}}) || !slices.Equal(m.Outs, []int{2}) || m.Type.Kind != api.TypeNat {
		t.Error("the countable module is", m)
	}
	m = moduleOf(t, "var x: real; var b: bool; return x;")
	if !slices.Equal(m.Cells, []api.Cell{{Kind: api.TypeReal}, truth}) || !slices.Equal(m.Outs, []int{0}) || m.Type.Kind != api.TypeReal {
		t.Error("the continuous module is", m)
	}
}

func TestParams(t *testing.T) {
	for i, params := range []string{"", "param p; ", "param p; param q; ", "param p; param q; param r; "} {
		if m := moduleOf(t, params+"query k { var b: bool; return b; } var b: bool; return b;"); m.Params != i || m.Nested[0].Params != 0 {
			t.Errorf("with %q there are %d parameters, %d in the query", params, m.Params, m.Nested[0].Params)
		}
	}
}

// numbered writes 0/20, 1/20 and so on at the places # of a text.
func numbered(s string) string {
	parts := strings.Split(s, "#")
	for i := range parts[1:] {
		parts[i] += fmt.Sprintf("%d/20", i)
	}
	return strings.Join(parts, "")
}

// The cells of the weights stand in the order of the text, whatever is repeated, and behind those of the variables.
func TestCellsOfWeights(t *testing.T) {
	statements := numbered("weight #; if b { weight #; repeat 3 { weight #; } } else { weight #; } repeat 0 { weight #; if b { weight #; } else { weight #; } } repeat 2 { weight #; repeat 2 { weight #; } } if b { } else { weight #; } weight #; ")
	m := moduleOf(t, "func f(l: list[3] int[0, 9], b: bool) { "+statements+"return b; } query k { var i: int[0, 1]; var j: int[0, 2]; var b: bool; "+statements+"return b; } var b: bool; "+statements+"return b;")
	for _, c := range []struct {
		cells  []api.Cell
		body   []api.Cmd
		locals int // b being the last one
	}{{m.Procs[0].Cells, m.Procs[0].Body, 5}, {m.Nested[0].Cells, m.Nested[0].Body, 3}, {m.Cells, m.Body, 1}} {
		want := strings.ReplaceAll("W0; if b {W1; W2; W2; W2} else {W3}; W7; W8; W8; W7; W8; W8; if b {} else {W9}; W10", " b ", fmt.Sprintf(" v%d ", c.locals-1))
		for i := 10; i >= 0; i-- {
			q, _ := rational.New(i, 20)
			failure := rational.Format(rational.Sub(rational.Int(1), q))
			want = strings.ReplaceAll(want, fmt.Sprint("W", i), fmt.Sprintf("v%d ~ table 0: %s, %s; observe v%[1]d", c.locals+i, failure, rational.Format(q)))
		}
		if got := bodyText(c.body); got != want {
			t.Errorf("the commands are\n%s, not\n%s", got, want)
		}
		if len(c.cells) != c.locals+11 || slices.ContainsFunc(c.cells[c.locals:], func(x api.Cell) bool { return x != api.Cell{Kind: api.TypeBool, High: 1} }) {
			t.Error("the cells are", c.cells)
		}
	}
	checkBodies(t, "var b: bool; ", [][2]string{
		{"while b { weight 0; if b { weight 1; } } weight 1/2;", "while v0 {v1 ~ table 0: 1, 0; observe v1; if v0 {v2 ~ table 0: 0, 1; observe v2} else {}}; v3 ~ table 0: 1/2, 1/2; observe v3"},
	})
}

func TestProcedures(t *testing.T) {
	m := moduleOf(t, "func f(a: bool, l: list[2] int[0, 3], c: (bool, int[4, 6])) { var b: bool; var d: (bool, int[4, 6]); weight 1; return c; } func g() { var i: int[0, 1]; var d: (bool, int[4, 6]); return d; } func h(a: int[1, 2]) { return a; } var b: bool; return b;")
	if len(m.Procs) != 3 || len(m.Nested) != 0 {
		t.Fatal("the module is", m)
	}
	truth, number := api.Cell{Kind: api.TypeBool, High: 1}, api.Cell{Kind: api.TypeInt, High: 3}
	pair := []api.Cell{truth, {Kind: api.TypeInt, Low: 4, High: 6}}
	for i, want := range []api.Proc{
		{Cells: slices.Concat([]api.Cell{truth, {Kind: api.TypeInt, High: 2}, number, number}, pair, []api.Cell{truth}, pair, []api.Cell{truth}), Args: 6, Outs: []int{4, 5}},
		{Cells: slices.Concat([]api.Cell{{Kind: api.TypeInt, High: 1}}, pair), Args: 0, Outs: []int{1, 2}},
		{Cells: []api.Cell{{Kind: api.TypeInt, Low: 1, High: 2}}, Args: 1, Outs: []int{0}},
	} {
		got := m.Procs[i]
		if i == 0 && len(got.Body) != 2 || i > 0 && len(got.Body) > 0 {
			t.Error("the body of a procedure is", got.Body)
		}
		got.Body = nil
		if show(got) != show(want) {
			t.Errorf("the procedure %d is %+v, not %+v", i, got, want)
		}
	}
}

func TestNestedModules(t *testing.T) {
	m := moduleOf(t, "param p; func f() { var i: int[2, 4]; i ~ posterior k; return i; } query k { var b: bool; var i: int[2, 4]; i ~ uniform(2, 4); return i; } query l { var b: bool; var i: int[0, 9]; weight p - p + 1/2; i ~ posterior k; return b; } query n { var b: bool; b ~ posterior l; return b; } var i: int[2, 4]; var b: bool; b ~ posterior n; i ~ posterior k; b ~ posterior l; return i;")
	if got := bodyText(m.Body); got != "v1 ~ nested 2; v0 ~ nested 0; v1 ~ nested 1" {
		t.Error("the commands are", got)
	}
	if got := bodyText(m.Procs[0].Body); got != "v0 ~ nested 0" {
		t.Error("the commands of the procedure are", got)
	}
	type part struct {
		outs  []int
		of    api.Type
		cells int
		body  string
	}
	want := []part{
		{[]int{1}, api.Type{Kind: api.TypeInt, Low: 2, High: 4}, 2, "v1 ~ table 2: 1/3, 1/3, 1/3"},
		{[]int{0}, api.Type{Kind: api.TypeBool}, 3, "v2 ~ table 0: 1/2, 1/2; observe v2; v1 ~ nested 0"},
		{[]int{0}, api.Type{Kind: api.TypeBool}, 1, "v0 ~ nested 1"},
	}
	if len(m.Nested) != len(want) {
		t.Fatal("the nested modules are", m.Nested)
	}
	for i, n := range m.Nested {
		if got := (part{n.Outs, n.Type, len(n.Cells), bodyText(n.Body)}); show(got) != show(want[i]) || n.Params != 0 || len(n.Procs) > 0 || len(n.Nested) > 0 {
			t.Errorf("the nested module is %+v, not %+v", n, want[i])
		}
	}
}

// P12.3: expressions

func TestOperators(t *testing.T) {
	checkBodies(t, "var b: bool; var c: bool; var i: int[0, 9]; var j: int[0, 9]; ", [][2]string{
		{"b := true; b := false; b := c;", "[0] := 1; [0] := 0; [0] := v1"},
		{"i := 0; i := 1000000; i := j;", "[2] := 0; [2] := 1000000; [2] := v3"},
		{"b := !c;", "[0] := (not v1)"},
		{"b := b && c; b := c || b;", "[0] := (and v0 v1); [0] := (or v1 v0)"},
		{"b := b && c && b; b := b && (c && b);", "[0] := (and (and v0 v1) v0); [0] := (and v0 (and v1 v0))"},
		{"b := i == j; b := b == c; b := i != 2;", "[0] := (eq v2 v3); [0] := (eq v0 v1); [0] := (not (eq v2 2))"},
		{"b := i < j; b := i <= j; b := i > j; b := i >= j;", "[0] := (lt v2 v3); [0] := (le v2 v3); [0] := (lt v3 v2); [0] := (le v3 v2)"},
		{"i := -j; i := --3;", "[2] := (sub 0 v3); [2] := (sub 0 (sub 0 3))"},
		{"i := i + j; i := i - j; i := i * j;", "[2] := (add v2 v3); [2] := (sub v2 v3); [2] := (mul v2 v3)"},
		{"i := b ? i : j; b := b ? c : true;", "[2] := (cond v0 v2 v3); [0] := (cond v0 v1 1)"},
		{"i := b ? 1 : c ? 2 : 3;", "[2] := (cond v0 1 (cond v1 2 3))"},
	})
	checkBodies(t, "var x: real; var y: real; var b: bool; ", [][2]string{
		{"x := 1/2; x := 3; x := 4/2; x := 0/5; x := y;", "[0] := r1/2; [0] := 3; [0] := r2; [0] := r0; [0] := v1"},
		{"x := x + 2/6; x := 2 - x; x := -x; x := 2 * x; x := x * 1/2;", "[0] := (add v0 r1/3); [0] := (sub 2 v0); [0] := (sub 0 v0); [0] := (mul 2 v0); [0] := (mul v0 r1/2)"},
		{"b := x < y; b := x <= 1/2; b := 1 < y;", "[2] := (lt v0 v1); [2] := (le v0 r1/2); [2] := (lt 1 v1)"},
	})
	checkBodies(t, "var n: nat; var k: nat; ", [][2]string{
		{"n := k + 1; observe n == k; n := k * -2;", "[0] := (add v1 1); observe (eq v0 v1); [0] := (mul v1 (sub 0 2))"},
	})
}

func TestTuples(t *testing.T) {
	checkBodies(t, "var t: (bool, (int[0, 9], bool)); var u: (bool, (int[0, 9], bool)); var b: bool; ", [][2]string{
		{"t := u;", "[0 1 2] := v3 v4 v5"},
		{"t := (b, u.1); t := (b, (3, !b));", "[0 1 2] := v6 v4 v5; [0 1 2] := v6 3 (not v6)"},
		{"b := t.0; b := t.1.1; b := (t, u).1.0; b := (1, 2, b, 3).2;", "[6] := v0; [6] := v2; [6] := v3; [6] := v6"},
		{"b := t == u;", "[6] := (and (eq v0 v3) (and (eq v1 v4) (eq v2 v5)))"},
		{"b := (1, 2, 3) == (4, 5, 6);", "[6] := (and (and (eq 1 4) (eq 2 5)) (eq 3 6))"},
		{"b := (b, b, b, b, b) == (b, b, b, b, true);", "[6] := (and (and (and (and (eq v6 v6) (eq v6 v6)) (eq v6 v6)) (eq v6 v6)) (eq v6 1))"},
		{"t := b ? t : u;", "[0 1 2] := (cond v6 v0 v3) (cond v6 v1 v4) (cond v6 v2 v5)"},
		{"t := b ? t : (b, (1, b));", "[0 1 2] := (cond v6 v0 v6) (cond v6 v1 1) (cond v6 v2 v6)"},
		{"b := (t == u ? t : u).0;", "[6] := (cond (and (eq v0 v3) (and (eq v1 v4) (eq v2 v5))) v0 v3)"},
	})
}

func TestLists(t *testing.T) {
	// l stands in v0 to v2, k in v3 to v4, e in v5 to v6, i in v7, b in v8.
	const before = "var l: list[2] int[0, 9]; var k: list[1] int[0, 9]; var e: list[1] bool; var i: int[0, 9]; var b: bool; "
	checkBodies(t, before, [][2]string{
		{"i := len(l); i := len(e); i := len([]); i := len([1, i, 3]); i := len([b]);", "[7] := v0; [7] := v5; [7] := 0; [7] := 3; [7] := 1"},
		{"i := l[i];", "[7] := (cond (and (eq v7 0) (lt 0 v0)) v1 (cond (and (eq v7 1) (lt 1 v0)) v2 0))"},
		{"b := e[0]; i := [4, 5][k[0]];", "[8] := (cond (and (eq 0 0) (lt 0 v5)) v6 0); [7] := (cond (and (eq (cond (and (eq 0 0) (lt 0 v3)) v4 0) 0) (lt 0 2)) 4 (cond (and (eq (cond (and (eq 0 0) (lt 0 v3)) v4 0) 1) (lt 1 2)) 5 0))"},
		{"b := l == l;", "[8] := (and (and (eq v0 v0) (or (le v0 0) (eq v1 v1))) (or (le v0 1) (eq v2 v2)))"},
		{"b := l == k; b := k == l;", "[8] := (and (and (eq v0 v3) (or (le v0 0) (eq v1 v4))) (or (le v0 1) (eq v2 0))); [8] := (and (and (eq v3 v0) (or (le v3 0) (eq v4 v1))) (or (le v3 1) (eq 0 v2)))"},
		{"b := [] == e; b := e == []; b := [] == [];", "[8] := (and (eq 0 v5) (or (le 0 0) (eq 0 v6))); [8] := (and (eq v5 0) (or (le v5 0) (eq v6 0))); [8] := (eq 0 0)"},
		{"b := [1, 2] != [i];", "[8] := (not (and (and (eq 2 1) (or (le 2 0) (eq 1 v7))) (or (le 2 1) (eq 2 0))))"},
		{"i := len(push(l, 5)); i := len(push([i], 5)); b := push(e, b)[0];", "[7] := (cond (lt v0 2) (add v0 1) v0); [7] := (cond (lt 1 1) (add 1 1) 1); [8] := (cond (and (eq 0 0) (lt 0 (cond (lt v5 1) (add v5 1) v5))) (cond (eq v5 0) v8 v6) 0)"},
		{"i := push([1, 2], 3)[i];", "[7] := (cond (and (eq v7 0) (lt 0 (cond (lt 2 2) (add 2 1) 2))) (cond (eq 2 0) 3 1) (cond (and (eq v7 1) (lt 1 (cond (lt 2 2) (add 2 1) 2))) (cond (eq 2 1) 3 2) 0))"},
		{"i := len(b ? l : k); i := (b ? k : l)[0];", "[7] := (cond v8 v0 v3); [7] := (cond (and (eq 0 0) (lt 0 (cond v8 v3 v0))) (cond v8 v4 v1) (cond (and (eq 0 1) (lt 1 (cond v8 v3 v0))) (cond v8 0 v2) 0))"},
		{"b := (b ? e : []) == (b ? [] : e);", "[8] := (and (eq (cond v8 v5 0) (cond v8 0 v5)) (or (le (cond v8 v5 0) 0) (eq (cond v8 v6 0) (cond v8 0 v6))))"},
		{"b := (b, k) == (true, l);", "[8] := (and (eq v8 1) (and (and (eq v3 v0) (or (le v3 0) (eq v4 v1))) (or (le v3 1) (eq 0 v2))))"},
		{"i := (b ? (l, 1) : ([], i)).0[1];", "[7] := (cond (and (eq 1 0) (lt 0 (cond v8 v0 0))) (cond v8 v1 0) (cond (and (eq 1 1) (lt 1 (cond v8 v0 0))) (cond v8 v2 0) 0))"},
	})
}

// P12.4: values for variables

func TestFitting(t *testing.T) {
	// l stands in v0 to v3, k in v4 to v5, t in v6 to v9, b in v10.
	checkBodies(t, "var l: list[3] int[0, 9]; var k: list[1] int[0, 9]; var t: (bool, list[2] bool); var b: bool; ", [][2]string{
		{"l := l;", "[0 1 2 3] := v0 (cond (lt 0 v0) v1 0) (cond (lt 1 v0) v2 0) (cond (lt 2 v0) v3 0)"},
		{"l := k;", "[0 1 2 3] := v4 (cond (lt 0 v4) v5 0) 0 0"},
		{"l := []; k := [];", "[0 1 2 3] := 0 0 0 0; [4 5] := 0 0"},
		{"l := [7, 8];", "[0 1 2 3] := 2 (cond (lt 0 2) 7 0) (cond (lt 1 2) 8 0) 0"},
		{"k := push(k, 2);", "[4 5] := (cond (lt v4 1) (add v4 1) v4) (cond (lt 0 (cond (lt v4 1) (add v4 1) v4)) (cond (eq v4 0) 2 v5) 0)"},
		{"t := t;", "[6 7 8 9] := v6 v7 (cond (lt 0 v7) v8 0) (cond (lt 1 v7) v9 0)"},
		{"t := (b, [b]); t := (true, []);", "[6 7 8 9] := v10 1 (cond (lt 0 1) v10 0) 0; [6 7 8 9] := 1 0 0 0"},
		{"k := b ? [] : [3];", "[4 5] := (cond v10 0 1) (cond (lt 0 (cond v10 0 1)) (cond v10 0 3) 0)"},
	})
	checkBodies(t, "func f(t: (list[2] bool, bool), k: list[1] int[0, 5]) { return k; } var k: list[1] int[0, 5]; var b: bool; ", [][2]string{
		{"k := f(([b], b), k);", "[0 1] := 0(1 (cond (lt 0 1) v2 0) 0 v2 v0 (cond (lt 0 v0) v1 0))"},
		{"k := f(([], true), []);", "[0 1] := 0(0 0 0 1 0 0)"},
	})
}

// P12.5: statements

func TestStatements(t *testing.T) {
	checkBodies(t, "func f() { var b: bool; return b; } func g(a: bool, i: int[0, 9]) { var t: (bool, bool); return t; } var b: bool; var i: int[0, 9]; var t: (bool, bool); ", [][2]string{
		{"", ""},
		{"b := b; i := 1; b := true;", "[0] := v0; [1] := 1; [0] := 1"},
		{"b := f(); t := g(b, i);", "[0] := 0(); [2 3] := 1(v0 v1)"},
		{"t := g(!b, i + 1);", "[2 3] := 1((not v0) (add v1 1))"},
		{"if b { i := 1; } if !b { i := 2; i := 3; } else { b := f(); } if b { } else { i := 4; } if b { }", "if v0 {[1] := 1} else {}; if (not v0) {[1] := 2; [1] := 3} else {[0] := 0()}; if v0 {} else {[1] := 4}; if v0 {} else {}"},
		{"while i < 3 { i := i + 1; if b { while b { } } } i := 0;", "while (lt v1 3) {[1] := (add v1 1); if v0 {while v0 {}} else {}}; [1] := 0"},
		{"repeat 3 { i := i + 1; b := !b; } b := b;", "[1] := (add v1 1); [0] := (not v0); [1] := (add v1 1); [0] := (not v0); [1] := (add v1 1); [0] := (not v0); [0] := v0"},
		{"repeat 0 { i := 1; } repeat 1 { i := 2; } repeat 8 { }", "[1] := 2"},
		{"repeat 2 { i := 1; repeat 2 { i := 2; } if b { repeat 3 { i := 3; } } repeat 0 { i := 4; } }", "[1] := 1; [1] := 2; [1] := 2; if v0 {[1] := 3; [1] := 3; [1] := 3} else {}; [1] := 1; [1] := 2; [1] := 2; if v0 {[1] := 3; [1] := 3; [1] := 3} else {}"},
		{"while b { repeat 2 { b := f(); } }", "while v0 {[0] := 0(); [0] := 0()}"},
		{"repeat 2 { while b { observe b; } }", "while v0 {observe v0}; while v0 {observe v0}"},
		{"observe b; observe i == 1 || b; observe true;", "observe v0; observe (or (eq v1 1) v0); observe 1"},
		{"weight 1/2; b ~ flip(1/3);", "v4 ~ table 0: 1/2, 1/2; observe v4; v0 ~ table 0: 2/3, 1/3"},
	})
	checkBodies(t, "param p; param q; param r; var b: bool; ", [][2]string{
		{"weight 0; weight 1; weight 1/4; weight p; weight q * r; weight 1 - p * p; weight p - p;", "v1 ~ table 0: 1, 0; observe v1; v2 ~ table 0: 0, 1; observe v2; v3 ~ table 0: 3/4, 1/4; observe v3; v4 ~ table 0: -p + 1, p; observe v4; v5 ~ table 0: -q*r + 1, q*r; observe v5; v6 ~ table 0: p^2, -p^2 + 1; observe v6; v7 ~ table 0: 1, 0; observe v7"},
	})
}

// A function can call itself and later ones.
func TestCalls(t *testing.T) {
	m := moduleOf(t, "func f(a: bool) { a := g(a, 1); a := f(!a); return a; } func g(c: bool, i: int[0, 3]) { var a: bool; a := h(); a := f(c); return a; } func h() { var x: bool; return x; } var b: bool; b := h(); b := g(b, 2); b := f(b); return b;")
	for i, want := range []string{"[0] := 1(v0 1); [0] := 0((not v0))", "[2] := 2(); [2] := 0(v0)", ""} {
		if got := bodyText(m.Procs[i].Body); got != want {
			t.Errorf("the commands of the procedure %d are %s, not %s", i, got, want)
		}
	}
	if got := bodyText(m.Body); got != "[0] := 2(); [0] := 1(v0 2); [0] := 0(v0)" {
		t.Error("the commands are", got)
	}
}

// Fields that are not mentioned are zero; every Site is 0.
func TestCommandFields(t *testing.T) {
	m := moduleOf(t, "func f(a: bool) { return a; } query k { var b: bool; return b; } var b: bool; var i: int[0, 9]; i := 1; b ~ flip(1/2); i ~ uniform(2, 3); b ~ posterior k; if b { } while b { } observe b; b := f(b); weight 1; return b;")
	one := api.Form{Op: api.FoInt, Int: 1}
	b := api.Form{Op: api.FoVar, Int: 0}
	half := []api.Poly{polynomial.Const(api.Rat{Num: []uint32{1}, Den: []uint32{2}}), polynomial.Const(api.Rat{Num: []uint32{1}, Den: []uint32{2}})}
	want := []api.Cmd{
		{Kind: api.CmdSet, Outs: []int{1}, Args: []api.Form{one}},
		{Kind: api.CmdDraw, Dist: api.Dist{Kind: api.DistTable, Weights: half}},
		{Kind: api.CmdDraw, Var: 1, Dist: api.Dist{Kind: api.DistTable, Low: 2, Weights: half}},
		{Kind: api.CmdDraw, Dist: api.Dist{Kind: api.DistNested}},
		{Kind: api.CmdIf, Form: b}, {Kind: api.CmdWhile, Form: b}, {Kind: api.CmdObserve, Form: b},
		{Kind: api.CmdCall, Outs: []int{0}, Args: []api.Form{b}},
		{Kind: api.CmdDraw, Var: 2, Dist: api.Dist{Kind: api.DistTable, Weights: []api.Poly{nil, polynomial.Const(rational.Int(1))}}},
		{Kind: api.CmdObserve, Form: api.Form{Op: api.FoVar, Int: 2}},
	}
	if show(m.Body) != show(want) {
		t.Errorf("the commands are\n%+v, not\n%+v", m.Body, want)
	}
	m = moduleOf(t, "var x: real; x ~ interval(-1, 1/2); x ~ beta(2, 3); x := 2/4 + x; return x;")
	quarter := api.Rat{Num: []uint32{1}, Den: []uint32{2}}
	want = []api.Cmd{
		{Kind: api.CmdDraw, Dist: api.Dist{Kind: api.DistInterval, From: rational.Int(-1), To: quarter}},
		{Kind: api.CmdDraw, Dist: api.Dist{Kind: api.DistBeta, Low: 2, High: 3}},
		{Kind: api.CmdSet, Outs: []int{0}, Args: []api.Form{{Op: api.FoAdd, Args: []api.Form{{Op: api.FoRat, Rat: quarter}, b}}}},
	}
	if show(m.Body) != show(want) {
		t.Errorf("the commands are\n%+v, not\n%+v", m.Body, want)
	}
	m = moduleOf(t, "var n: nat; n ~ geometric(2/4); return n;")
	if want := []api.Cmd{{Kind: api.CmdDraw, Dist: api.Dist{Kind: api.DistGeometric, From: quarter}}}; show(m.Body) != show(want) {
		t.Errorf("the commands are\n%+v, not\n%+v", m.Body, want)
	}
}

// P12.6: draws

func TestDraws(t *testing.T) {
	checkBodies(t, "param p; param q; var i: int[0, 9]; var b: bool; ", [][2]string{
		{"b ~ flip(1/3); b ~ flip(0); b ~ flip(1);", "v1 ~ table 0: 2/3, 1/3; v1 ~ table 0: 1, 0; v1 ~ table 0: 0, 1"},
		{"b ~ flip(p); b ~ flip(1 - q); b ~ flip(p * q - p);", "v1 ~ table 0: -p + 1, p; v1 ~ table 0: q, -q + 1; v1 ~ table 0: -p*q + p + 1, p*q - p"},
		{"i ~ uniform(-1, 1); i ~ uniform(5, 5); i ~ uniform(-1000, -997); i ~ uniform(997, 1000);", "v0 ~ table -1: 1/3, 1/3, 1/3; v0 ~ table 5: 1; v0 ~ table -1000: 1/4, 1/4, 1/4, 1/4; v0 ~ table 997: 1/4, 1/4, 1/4, 1/4"},
		{"i ~ uniform(0, 15);", "v0 ~ table 0: " + strings.TrimSuffix(strings.Repeat("1/16, ", 16), ", ")},
		{"i ~ table(7; 1/2, 1/3, 1/6); i ~ table(-4; 1); i ~ table(0; 0, 1, 0); i ~ table(3; p, 1 - p - q, q);", "v0 ~ table 7: 1/2, 1/3, 1/6; v0 ~ table -4: 1; v0 ~ table 0: 0, 1, 0; v0 ~ table 3: p, -p - q + 1, q"},
		{"i ~ binomial(0, p); i ~ binomial(1, 1/3); i ~ binomial(3, 1/3);", "v0 ~ table 0: 1; v0 ~ table 0: 2/3, 1/3; v0 ~ table 0: 8/27, 4/9, 2/9, 1/27"},
		{"i ~ binomial(2, 0); i ~ binomial(2, 1); i ~ binomial(0, 0); i ~ binomial(0, 1);", "v0 ~ table 0: 1, 0, 0; v0 ~ table 0: 0, 0, 1; v0 ~ table 0: 1; v0 ~ table 0: 1"},
		{"i ~ binomial(2, p); i ~ binomial(2, 1 - q);", "v0 ~ table 0: p^2 - 2*p + 1, -2*p^2 + 2*p, p^2; v0 ~ table 0: q^2, -2*q^2 + 2*q, q^2 - 2*q + 1"},
		{"i ~ binomial(2, p * q);", "v0 ~ table 0: p^2*q^2 - 2*p*q + 1, -2*p^2*q^2 + 2*p*q, p^2*q^2"},
	})
	checkBodies(t, "var n: nat; ", [][2]string{
		{"n ~ geometric(0); n ~ geometric(2/6); n ~ uniform(0, 1); n ~ binomial(1, 1/2); n ~ table(2; 1/4, 3/4);", "v0 ~ geometric 0; v0 ~ geometric 1/3; v0 ~ table 0: 1/2, 1/2; v0 ~ table 0: 1/2, 1/2; v0 ~ table 2: 1/4, 3/4"},
	})
	checkBodies(t, "var x: real; ", [][2]string{
		{"x ~ interval(-3/2, -1); x ~ interval(0, 2/4); x ~ beta(1, 6); x ~ beta(6, 1);", "v0 ~ interval -3/2 -1; v0 ~ interval 0 1/2; v0 ~ beta 1 6; v0 ~ beta 6 1"},
	})
}

// All probabilities of successes, by the definition.
func TestBinomial(t *testing.T) {
	for _, text := range []string{"1/3", "p", "1 - p", "1/2 * p + 1/3 * q", "0", "1", "p * q * r"} {
		for n := range api.MaxOutcomes {
			m := moduleOf(t, fmt.Sprintf("param p; param q; param r; var i: int[0, 15]; var b: bool; i ~ binomial(%d, %s); b ~ flip(%[2]s); return i;", n, text))
			q := m.Body[1].Dist.Weights[1]
			rest, _ := polynomial.Sub(polynomial.Const(rational.Int(1)), q)
			weights := m.Body[0].Dist.Weights
			if len(weights) != n+1 {
				t.Fatalf("binomial(%d, %s) has the weights %v", n, text, weights)
			}
			choose := rational.Int(1)
			for k, w := range weights {
				successes, _ := polynomial.Pow(q, k)
				failures, _ := polynomial.Pow(rest, n-k)
				want, _ := polynomial.Mul(successes, failures)
				want, _ = polynomial.Scale(want, choose)
				if show(w) != show(want) {
					t.Errorf("the weight %d of binomial(%d, %s) is %v, not %v", k, n, text, w, want)
				}
				ratio, _ := rational.New(n-k, k+1)
				choose = rational.Mul(choose, ratio)
			}
		}
	}
}
