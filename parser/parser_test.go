package parser_test

import (
	"fmt"
	"slices"
	"strings"
	"testing"

	"exactppl/api"
	"exactppl/parser"
)

// show writes all fields of v, with nil and an empty list alike.
func show(v any) string { return fmt.Sprintf("%+v", v) }

// parse returns the program with the text s, which is one.
func parse(t *testing.T, s string) api.Program {
	t.Helper()
	p, pos, e := parser.Parse(s)
	if e != api.OK || pos != (api.Pos{}) {
		t.Fatalf("Parse(%.200q) has the error %d at %v", s, e, pos)
	}
	return p
}

// check reports a program of s that is not want.
func check(t *testing.T, s string, want api.Program) {
	t.Helper()
	if got := parse(t, s); show(got) != show(want) {
		t.Errorf("Parse(%.200q) is\n%+v, not\n%+v", s, got, want)
	}
}

// checkBody reports statements of s that are not want.
func checkBody(t *testing.T, s string, want ...api.Stmt) {
	t.Helper()
	check(t, s+" return r;", api.Program{Body: want, Result: "r"})
}

// checkExpr reports an expression s that is not want.
func checkExpr(t *testing.T, s string, want api.Expr) {
	t.Helper()
	checkBody(t, "observe "+s+";", api.Stmt{Kind: api.StObserve, Expr: want})
}

// checkDraw reports a draw s that is not want.
func checkDraw(t *testing.T, s string, want api.Draw) {
	t.Helper()
	checkBody(t, "x ~ "+s+";", api.Stmt{Kind: api.StDraw, Name: "x", Draw: want})
}

// checkType reports a type s that is not want.
func checkType(t *testing.T, s string, want api.Type) {
	t.Helper()
	check(t, "var x: "+s+"; return r;", api.Program{Vars: []api.Decl{{Name: "x", Type: want}}, Result: "r"})
}

func node(op int, args ...api.Expr) api.Expr { return api.Expr{Op: op, Args: args} }

func number(n int) api.Expr { return api.Expr{Op: api.ExInt, Int: n} }

func field(e api.Expr, n int) api.Expr {
	return api.Expr{Op: api.ExField, Int: n, Args: []api.Expr{e}}
}

// ratio returns a fraction with small parts.
func ratio(neg bool, num, den uint32) api.Rat {
	r := api.Rat{Neg: neg, Den: []uint32{den}}
	if num != 0 {
		r.Num = []uint32{num}
	}
	return r
}

func fraction(r api.Rat) api.Expr { return api.Expr{Op: api.ExRat, Rat: r} }

var (
	a, b, c, d, f = variable("a"), variable("b"), variable("c"), variable("d"), variable("f")
	yes, no       = api.Expr{Op: api.ExBool, Int: 1}, api.Expr{Op: api.ExBool}
	truth         = api.Type{Kind: api.TypeBool}
)

func variable(name string) api.Expr { return api.Expr{Op: api.ExName, Name: name} }

func assign(name string, e api.Expr) api.Stmt {
	return api.Stmt{Kind: api.StAssign, Name: name, Expr: e}
}

// P9.1: expressions

func TestPrimaries(t *testing.T) {
	checkExpr(t, "true", yes)
	checkExpr(t, "false", no)
	checkExpr(t, "a", a)
	checkExpr(t, "abcdefghijkl", variable("abcdefghijkl"))
	checkExpr(t, "_1", variable("_1"))
	checkExpr(t, "True", variable("True"))
	checkExpr(t, "(a)", a)
	checkExpr(t, "(((a)))", a)
	checkExpr(t, "(a, b)", node(api.ExTuple, a, b))
	checkExpr(t, "(a, b, c, d, f, a)", node(api.ExTuple, a, b, c, d, f, a))
	checkExpr(t, "((a, b), c)", node(api.ExTuple, node(api.ExTuple, a, b), c))
	checkExpr(t, "((a, b))", node(api.ExTuple, a, b))
	checkExpr(t, "((a), (b))", node(api.ExTuple, a, b))
	checkExpr(t, "[]", node(api.ExList))
	checkExpr(t, "[a]", node(api.ExList, a))
	checkExpr(t, "[(a)]", node(api.ExList, a))
	checkExpr(t, "[a, b, c, d, f]", node(api.ExList, a, b, c, d, f))
	checkExpr(t, "[[], [a], [b, [c]]]", node(api.ExList, node(api.ExList), node(api.ExList, a), node(api.ExList, b, node(api.ExList, c))))
	checkExpr(t, "len(a)", node(api.ExLen, a))
	checkExpr(t, "len((a, b))", node(api.ExLen, node(api.ExTuple, a, b)))
	checkExpr(t, "push(a, b)", node(api.ExPush, a, b))
	checkExpr(t, "push(push([], a ? b : c), len(d))", node(api.ExPush, node(api.ExPush, node(api.ExList), node(api.ExCond, a, b, c)), node(api.ExLen, d)))
}

func TestNumbers(t *testing.T) {
	for s, n := range map[string]int{"0": 0, "00": 0, "7": 7, "007": 7, "999999": 999999, "1000000": 1000000, "0001000000": 1000000, strings.Repeat("0", 59) + "9": 9, strings.Repeat("0", 53) + "1000000": 1000000, strings.Repeat("0", 60): 0} {
		checkExpr(t, s, number(n))
		checkExpr(t, "a."+s, field(a, n))
		checkType(t, "int[-"+s+", "+s+"]", api.Type{Kind: api.TypeInt, Low: -n, High: n})
		checkType(t, "list["+s+"] bool", api.Type{Kind: api.TypeList, Max: n, Elems: []api.Type{truth}})
		checkBody(t, "repeat "+s+" { }", api.Stmt{Kind: api.StRepeat, Int: n})
		checkDraw(t, "uniform(- "+s+", "+s+")", api.Draw{Kind: api.DrawUniform, Low: -n, High: n})
		checkDraw(t, "uniform("+s+", -"+s+")", api.Draw{Kind: api.DrawUniform, Low: n, High: -n})
		checkDraw(t, "table(-"+s+"; a)", api.Draw{Kind: api.DrawTable, Low: -n, Probs: []api.Expr{a}})
		checkDraw(t, "binomial("+s+", a)", api.Draw{Kind: api.DrawBinomial, High: n, Probs: []api.Expr{a}})
		checkDraw(t, "beta("+s+", "+s+")", api.Draw{Kind: api.DrawBeta, Low: n, High: n})
	}
}

func TestFractions(t *testing.T) {
	one60 := "1" + strings.Repeat("0", 59)
	for _, v := range []struct {
		s    string
		want api.Rat
	}{
		{"1/2", ratio(false, 1, 2)},
		{"2/4", ratio(false, 1, 2)},
		{"6/3", ratio(false, 2, 1)},
		{"5/1", ratio(false, 5, 1)},
		{"0/5", ratio(false, 0, 1)},
		{"00/01", ratio(false, 0, 1)},
		{"1 / 3", ratio(false, 1, 3)},
		{"1\n/#\n03", ratio(false, 1, 3)},
		{"1000001/1000000", ratio(false, 1000001, 1000000)},
		{"1/1000001", ratio(false, 1, 1000001)},
		{"3000000/2000000", ratio(false, 3, 2)},
		{"4294967296/4294967297", api.Rat{Num: []uint32{0, 1}, Den: []uint32{1, 1}}},
		{"18446744073709551616/4294967295", api.Rat{Num: []uint32{0, 0, 1}, Den: []uint32{1<<32 - 1}}},
		{one60 + "/" + one60, ratio(false, 1, 1)},
		{one60 + "/" + one60[:59], ratio(false, 10, 1)},
		{one60[:59] + "/" + one60, ratio(false, 1, 10)},
	} {
		checkExpr(t, v.s, fraction(v.want))
		checkExpr(t, "a + "+v.s+" < b", node(api.ExLt, node(api.ExAdd, a, fraction(v.want)), b))
		checkDraw(t, "geometric("+v.s+")", api.Draw{Kind: api.DrawGeometric, From: v.want})
		checkDraw(t, "interval("+v.s+", 0)", api.Draw{Kind: api.DrawInterval, From: v.want, To: ratio(false, 0, 1)})
		v.want.Neg = len(v.want.Num) != 0
		checkDraw(t, "interval(0, - "+v.s+")", api.Draw{Kind: api.DrawInterval, From: ratio(false, 0, 1), To: v.want})
		checkDraw(t, "geometric(-"+v.s+")", api.Draw{Kind: api.DrawGeometric, From: v.want})
	}
	checkDraw(t, "geometric(4294967296)", api.Draw{Kind: api.DrawGeometric, From: api.Rat{Num: []uint32{0, 1}, Den: []uint32{1}}})
	checkDraw(t, "interval(-4294967295, 1000001)", api.Draw{Kind: api.DrawInterval, From: ratio(true, 1<<32-1, 1), To: ratio(false, 1000001, 1)})
	checkDraw(t, "interval(-0, 00)", api.Draw{Kind: api.DrawInterval, From: ratio(false, 0, 1), To: ratio(false, 0, 1)})
	checkExpr(t, "-1/2", node(api.ExNeg, fraction(ratio(false, 1, 2))))
	checkExpr(t, "1/2.3", field(fraction(ratio(false, 1, 2)), 3))
	checkExpr(t, "1/2[3/4]", node(api.ExAt, fraction(ratio(false, 1, 2)), fraction(ratio(false, 3, 4))))
	checkExpr(t, "1/2 * 2/1 - 1/4", node(api.ExSub, node(api.ExMul, fraction(ratio(false, 1, 2)), fraction(ratio(false, 2, 1))), fraction(ratio(false, 1, 4))))
}

func TestComparisons(t *testing.T) {
	checkExpr(t, "a == b", node(api.ExEq, a, b))
	checkExpr(t, "a != b", node(api.ExNot, node(api.ExEq, a, b)))
	checkExpr(t, "a < b", node(api.ExLt, a, b))
	checkExpr(t, "a <= b", node(api.ExLe, a, b))
	checkExpr(t, "a > b", node(api.ExLt, b, a))
	checkExpr(t, "a >= b", node(api.ExLe, b, a))
	checkExpr(t, "!(a == b)", node(api.ExNot, node(api.ExEq, a, b)))
	checkExpr(t, "!(a != b)", node(api.ExNot, node(api.ExNot, node(api.ExEq, a, b))))
	checkExpr(t, "(a < b) < c", node(api.ExLt, node(api.ExLt, a, b), c))
	checkExpr(t, "a > (b > c)", node(api.ExLt, node(api.ExLt, c, b), a))
}

// Every pair of binary operators, with the levels of the grammar.
func TestBinaryOperators(t *testing.T) {
	type operator struct {
		sign  string
		level int
		build func(x, y api.Expr) api.Expr
	}
	plain := func(op int) func(x, y api.Expr) api.Expr {
		return func(x, y api.Expr) api.Expr { return node(op, x, y) }
	}
	operators := []operator{
		{"||", 1, plain(api.ExOr)}, {"&&", 2, plain(api.ExAnd)},
		{"==", 3, plain(api.ExEq)}, {"<", 3, plain(api.ExLt)}, {"<=", 3, plain(api.ExLe)},
		{"!=", 3, func(x, y api.Expr) api.Expr { return node(api.ExNot, node(api.ExEq, x, y)) }},
		{">", 3, func(x, y api.Expr) api.Expr { return node(api.ExLt, y, x) }},
		{">=", 3, func(x, y api.Expr) api.Expr { return node(api.ExLe, y, x) }},
		{"+", 4, plain(api.ExAdd)}, {"-", 4, plain(api.ExSub)}, {"*", 5, plain(api.ExMul)},
	}
	for _, first := range operators {
		checkExpr(t, "a "+first.sign+" b", first.build(a, b))
		checkExpr(t, "!a"+first.sign+"-b", first.build(node(api.ExNot, a), node(api.ExNeg, b)))
		checkExpr(t, "(a"+first.sign+"b) ? a"+first.sign+"b : b"+first.sign+"a", node(api.ExCond, first.build(a, b), first.build(a, b), first.build(b, a)))
		for _, second := range operators {
			s := "a " + first.sign + " b " + second.sign + " c"
			switch {
			case first.level < second.level:
				checkExpr(t, s, first.build(a, second.build(b, c)))
			case first.level > second.level || first.level != 3:
				checkExpr(t, s, second.build(first.build(a, b), c))
			default:
				checkError(t, "observe "+s+"; return r;", 1, 12+len(first.sign)+2, api.ErrSyntax)
			}
			checkExpr(t, "a"+first.sign+"(b"+second.sign+"c)", first.build(a, second.build(b, c)))
			checkExpr(t, "(a"+first.sign+"b)"+second.sign+"c", second.build(first.build(a, b), c))
		}
	}
}

func TestUnaryAndPostfix(t *testing.T) {
	checkExpr(t, "!a", node(api.ExNot, a))
	checkExpr(t, "-a", node(api.ExNeg, a))
	checkExpr(t, "-0", node(api.ExNeg, number(0)))
	checkExpr(t, "!-!a", node(api.ExNot, node(api.ExNeg, node(api.ExNot, a))))
	checkExpr(t, "- - -1", node(api.ExNeg, node(api.ExNeg, node(api.ExNeg, number(1)))))
	checkExpr(t, "a--b", node(api.ExSub, a, node(api.ExNeg, b)))
	checkExpr(t, "-a * b", node(api.ExMul, node(api.ExNeg, a), b))
	checkExpr(t, "-(a * b)", node(api.ExNeg, node(api.ExMul, a, b)))
	checkExpr(t, "!a.0", node(api.ExNot, field(a, 0)))
	checkExpr(t, "(!a).0", field(node(api.ExNot, a), 0))
	checkExpr(t, "a.0.12[b].3", field(node(api.ExAt, field(field(a, 0), 12), b), 3))
	checkExpr(t, "a[b][c.0]", node(api.ExAt, node(api.ExAt, a, b), field(c, 0)))
	checkExpr(t, "a[b[c]]", node(api.ExAt, a, node(api.ExAt, b, c)))
	checkExpr(t, "a[b ? c : d]", node(api.ExAt, a, node(api.ExCond, b, c, d)))
	checkExpr(t, "(a, b).1", field(node(api.ExTuple, a, b), 1))
	checkExpr(t, "[a][b]", node(api.ExAt, node(api.ExList, a), b))
	checkExpr(t, "[][0]", node(api.ExAt, node(api.ExList), number(0)))
	checkExpr(t, "len(a).0", field(node(api.ExLen, a), 0))
	checkExpr(t, "push(a, b)[0]", node(api.ExAt, node(api.ExPush, a, b), number(0)))
	checkExpr(t, "true.1", field(yes, 1))
	checkExpr(t, "3.1.2", field(field(number(3), 1), 2))
}

func TestConditions(t *testing.T) {
	cond := func(x, y, z api.Expr) api.Expr { return node(api.ExCond, x, y, z) }
	checkExpr(t, "a ? b : c", cond(a, b, c))
	checkExpr(t, "a ? b : c ? d : f", cond(a, b, cond(c, d, f)))
	checkExpr(t, "a ? b ? c : d : f", cond(a, cond(b, c, d), f))
	checkExpr(t, "(a ? b : c) ? d : f", cond(cond(a, b, c), d, f))
	checkExpr(t, "a || b ? c || d : f || a", cond(node(api.ExOr, a, b), node(api.ExOr, c, d), node(api.ExOr, f, a)))
	checkExpr(t, "a || (b ? c : d)", node(api.ExOr, a, cond(b, c, d)))
	checkExpr(t, "a == b ? c < d : !f", cond(node(api.ExEq, a, b), node(api.ExLt, c, d), node(api.ExNot, f)))
	checkExpr(t, "[a ? b : c, d]", node(api.ExList, cond(a, b, c), d))
}

// P9.1: draws, statements, types, programs

func TestDraws(t *testing.T) {
	half := fraction(ratio(false, 1, 2))
	checkDraw(t, "flip(a)", api.Draw{Kind: api.DrawFlip, Probs: []api.Expr{a}})
	checkDraw(t, "flip(1/2)", api.Draw{Kind: api.DrawFlip, Probs: []api.Expr{half}})
	checkDraw(t, "flip(a ? b : c)", api.Draw{Kind: api.DrawFlip, Probs: []api.Expr{node(api.ExCond, a, b, c)}})
	checkDraw(t, "uniform(-2, 3)", api.Draw{Kind: api.DrawUniform, Low: -2, High: 3})
	checkDraw(t, "table(4; a)", api.Draw{Kind: api.DrawTable, Low: 4, Probs: []api.Expr{a}})
	checkDraw(t, "table(-4; 1/2, a + b, (c))", api.Draw{Kind: api.DrawTable, Low: -4, Probs: []api.Expr{half, node(api.ExAdd, a, b), c}})
	checkDraw(t, "binomial(3, 1 - a)", api.Draw{Kind: api.DrawBinomial, High: 3, Probs: []api.Expr{node(api.ExSub, number(1), a)}})
	checkDraw(t, "geometric(2/6)", api.Draw{Kind: api.DrawGeometric, From: ratio(false, 1, 3)})
	checkDraw(t, "interval(-1/2, 10)", api.Draw{Kind: api.DrawInterval, From: ratio(true, 1, 2), To: ratio(false, 10, 1)})
	checkDraw(t, "beta(2, 3)", api.Draw{Kind: api.DrawBeta, Low: 2, High: 3})
	checkDraw(t, "posterior q", api.Draw{Kind: api.DrawNested, Name: "q"})
}

func TestStatements(t *testing.T) {
	call := func(args ...api.Expr) api.Stmt {
		return api.Stmt{Kind: api.StCall, Name: "x", Func: "g", Args: args}
	}
	checkBody(t, "")
	checkBody(t, "x := a;", assign("x", a))
	checkBody(t, "x := (a);", assign("x", a))
	checkBody(t, "x := g;", assign("x", variable("g")))
	checkBody(t, "x := g[a];", assign("x", node(api.ExAt, variable("g"), a)))
	checkBody(t, "x := len(a);", assign("x", node(api.ExLen, a)))
	checkBody(t, "x := push(a, b);", assign("x", node(api.ExPush, a, b)))
	checkBody(t, "x := g();", call())
	checkBody(t, "x := g(a);", call(a))
	checkBody(t, "x := g((a, b), c ? d : f, []);", call(node(api.ExTuple, a, b), node(api.ExCond, c, d, f), node(api.ExList)))
	checkBody(t, "x := x(x);", api.Stmt{Kind: api.StCall, Name: "x", Func: "x", Args: []api.Expr{variable("x")}})
	checkBody(t, "observe a; weight 1/2;", api.Stmt{Kind: api.StObserve, Expr: a}, api.Stmt{Kind: api.StWeight, Expr: fraction(ratio(false, 1, 2))})
	checkBody(t, "if a { }", api.Stmt{Kind: api.StIf, Expr: a})
	checkBody(t, "if a { } else { }", api.Stmt{Kind: api.StIf, Expr: a})
	checkBody(t, "if a ? b : c { x := a; y := b; }", api.Stmt{Kind: api.StIf, Expr: node(api.ExCond, a, b, c), Then: []api.Stmt{assign("x", a), assign("y", b)}})
	checkBody(t, "if a { } else { x := a; y := b; }", api.Stmt{Kind: api.StIf, Expr: a, Else: []api.Stmt{assign("x", a), assign("y", b)}})
	checkBody(t, "if a { if b { } } else { x := a; }", api.Stmt{Kind: api.StIf, Expr: a, Then: []api.Stmt{{Kind: api.StIf, Expr: b}}, Else: []api.Stmt{assign("x", a)}})
	checkBody(t, "if a { if b { } else { x := a; } }", api.Stmt{Kind: api.StIf, Expr: a, Then: []api.Stmt{{Kind: api.StIf, Expr: b, Else: []api.Stmt{assign("x", a)}}}})
	checkBody(t, "repeat 3 { x := a; observe b; }", api.Stmt{Kind: api.StRepeat, Int: 3, Then: []api.Stmt{assign("x", a), {Kind: api.StObserve, Expr: b}}})
	checkBody(t, "while !a { repeat 0 { } } x := b;", api.Stmt{Kind: api.StWhile, Expr: node(api.ExNot, a), Then: []api.Stmt{{Kind: api.StRepeat}}}, assign("x", b))
}

func TestTypes(t *testing.T) {
	tuple := func(l ...api.Type) api.Type { return api.Type{Kind: api.TypeTuple, Elems: l} }
	listOf := func(limit int, element api.Type) api.Type {
		return api.Type{Kind: api.TypeList, Max: limit, Elems: []api.Type{element}}
	}
	natural, realType := api.Type{Kind: api.TypeNat}, api.Type{Kind: api.TypeReal}
	checkType(t, "bool", truth)
	checkType(t, "nat", natural)
	checkType(t, "real", realType)
	checkType(t, "int[-3, 5]", api.Type{Kind: api.TypeInt, Low: -3, High: 5})
	checkType(t, "int[5, -3]", api.Type{Kind: api.TypeInt, Low: 5, High: -3})
	checkType(t, "(bool, nat)", tuple(truth, natural))
	checkType(t, "(bool, real, nat, bool, bool, bool)", tuple(truth, realType, natural, truth, truth, truth))
	checkType(t, "((bool, nat), (nat, bool), bool)", tuple(tuple(truth, natural), tuple(natural, truth), truth))
	checkType(t, "list[4] int[0, 0]", listOf(4, api.Type{Kind: api.TypeInt}))
	checkType(t, "list[0] list[1] (bool, list[2] real)", listOf(0, listOf(1, tuple(truth, listOf(2, realType)))))
}

func TestPrograms(t *testing.T) {
	x, y := api.Decl{Name: "x", Type: truth}, api.Decl{Name: "y", Type: api.Type{Kind: api.TypeNat}}
	check(t, "return x;", api.Program{Result: "x"})
	check(t, "param p; return x;", api.Program{Params: []string{"p"}, Result: "x"})
	check(t, "param q; param p; param q; var y: nat; var x: bool; x := a; return y;", api.Program{Params: []string{"q", "p", "q"}, Vars: []api.Decl{y, x}, Body: []api.Stmt{assign("x", a)}, Result: "y"})
	check(t, "func g() { return y; } return x;", api.Program{Funcs: []api.Func{{Name: "g", Result: "y"}}, Result: "x"})
	check(t, "func g(x: bool) { return y; } return x;", api.Program{Funcs: []api.Func{{Name: "g", Args: []api.Decl{x}, Result: "y"}}, Result: "x"})
	check(t, "query g { return y; } return x;", api.Program{Queries: []api.Func{{Name: "g", Result: "y"}}, Result: "x"})
	full := api.Func{Name: "g", Args: []api.Decl{x, y}, Vars: []api.Decl{y, x}, Body: []api.Stmt{assign("x", a), assign("y", b)}, Result: "y"}
	query := api.Func{Name: "h", Vars: []api.Decl{x, y}, Body: []api.Stmt{assign("y", a), assign("x", b)}, Result: "x"}
	check(t, "query h { var x: bool; var y: nat; y := a; x := b; return x; } func g(x: bool, y: nat) { var y: nat; var x: bool; x := a; y := b; return y; } query g { return x; } func h() { return x; } return z;",
		api.Program{Funcs: []api.Func{full, {Name: "h", Result: "x"}}, Queries: []api.Func{query, {Name: "g", Result: "x"}}, Result: "z"})
}

// The example of the chapter, and the examples of the document.
func TestExamples(t *testing.T) {
	third := api.Draw{Kind: api.DrawFlip, Probs: []api.Expr{fraction(ratio(false, 1, 3))}}
	check(t, "var x: bool; x ~ flip(1/3); return x;", api.Program{Vars: []api.Decl{{Name: "x", Type: truth}}, Body: []api.Stmt{{Kind: api.StDraw, Name: "x", Draw: third}}, Result: "x"})
	for _, s := range examples {
		parse(t, s)
	}
}

var examples = []string{
	"var x: bool; var y: bool; x ~ flip(1/3); y ~ flip(1/2); observe x || y; return x;",
	"param p; var x: bool; x ~ flip(p); observe x || false; return x;",
	"param p; var x: bool; var y: bool; x ~ flip(p); y ~ flip(p); observe x || y; return x;",
	"var n: nat; n ~ geometric(1/2); observe n < 2; return n;",
	"var x: real; var y: real; var b: bool; x ~ interval(0, 1); y ~ interval(0, 2); b := x < y; return b;",
	"var b: bool; while !b { b ~ flip(1/2); } return b;",
	"func f(k: int[0, 3]) { var r: bool; r ~ flip(1/2); if 0 < k { if r { r := f(k - 1); } } return r; } var b: bool; b := f(2); return b;",
	"query q { var c: bool; c ~ flip(1/4); return c; } var b: bool; b ~ posterior q; return b;",
	"var l: list[2] bool; l := push(push([true], false), true); return l;",
	"var x: bool; var y: bool; x ~ flip(1/2); y ~ flip(1/3); observe x; return x;",
}

// P9.3: texts at the limit of length

func TestLongTexts(t *testing.T) {
	const around = len("observe a; return r;")
	more := api.MaxText - around
	long := func(s string) string {
		text := "observe " + s + "; return r;"
		return text + strings.Repeat(" ", api.MaxText-len(text))
	}
	depth := func(e api.Expr) int {
		n := 0
		for ; len(e.Args) > 0; n++ {
			e = slices.MaxFunc(e.Args, func(x, y api.Expr) int { return len(x.Args) - len(y.Args) })
		}
		return n
	}
	for _, v := range []struct {
		s    string
		want int
	}{
		{strings.Repeat("!", more) + "a", more},
		{strings.Repeat("-", more) + "a", more},
		{"a" + strings.Repeat("+a", more/2), more / 2},
		{"a" + strings.Repeat("*a", more/2), more / 2},
		{"a" + strings.Repeat("||a", more/3), more / 3},
		{"a" + strings.Repeat("&&a", more/3), more / 3},
		{"a" + strings.Repeat(".0", more/2), more / 2},
		{"a" + strings.Repeat("[a]", more/3), more / 3},
		{strings.Repeat("a?a:", more/4) + "a", more / 4},
		{strings.Repeat("a?", more/4) + "a" + strings.Repeat(":a", more/4), more / 4},
	} {
		p := parse(t, long(v.s))
		if got := depth(p.Body[0].Expr); got != v.want {
			t.Errorf("%.20q has the depth %d, not %d", v.s, got, v.want)
		}
	}
	p := parse(t, long("("+strings.Repeat("a,", more/2-1)+"a)"))
	if n := len(p.Body[0].Expr.Args); n != more/2 {
		t.Error("the tuple has", n, "elements")
	}
	p = parse(t, "var x: "+strings.Repeat("list[1]", 1000)+"nat; return r;")
	n := 0
	for element := p.Vars[0].Type; element.Kind == api.TypeList; n++ {
		element = element.Elems[0]
	}
	if n != 1000 {
		t.Error("the list has the depth", n)
	}
	if p = parse(t, strings.Repeat("x:=a;", 1000)+"return r;"); len(p.Body) != 1000 {
		t.Error("the program has", len(p.Body), "statements")
	}
}
