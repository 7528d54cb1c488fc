package printer_test

import (
	"fmt"
	"strings"
	"testing"

	"exactppl/api"
	"exactppl/parser"
	"exactppl/printer"
)

// show writes all fields of v, with nil and an empty list alike.
func show(v any) string { return fmt.Sprintf("%+v", v) }

// parse returns the program with the text s, which is one.
func parse(t *testing.T, s string) api.Program {
	t.Helper()
	p, pos, e := parser.Parse(s)
	if e != api.OK {
		t.Fatalf("Parse(%.300q) has the error %d at %v", s, e, pos)
	}
	return p
}

// checkPrint reports a text of p that is not want, and a program that the text does not give back.
func checkPrint(t *testing.T, p api.Program, want string) {
	t.Helper()
	s, e := printer.Print(p)
	if e != api.OK || s != want {
		t.Errorf("Print(%.500s) is %d\n%s\nnot\n%s", show(p), e, s, want)
		return
	}
	if again := parse(t, s); show(again) != show(p) {
		t.Errorf("Parse(%.500q) is\n%+v, not\n%+v", s, again, p)
	}
}

// checkPrintError reports an error of p that is not want, and a text beside it.
func checkPrintError(t *testing.T, p api.Program, want api.Errno) {
	t.Helper()
	if s, e := printer.Print(p); e != want || s != "" {
		t.Errorf("Print(%.500s) is %d with the text %.300q, not %d", show(p), e, s, want)
	}
}

// checkLines checks the text of these lines, and that it is the layout of what it means.
func checkLines(t *testing.T, lines ...string) {
	t.Helper()
	want := strings.Join(lines, "\n") + "\n"
	checkPrint(t, parse(t, want), want)
}

// checkBody checks the lines of statements.
func checkBody(t *testing.T, lines ...string) {
	t.Helper()
	checkLines(t, append(lines, "return r;")...)
}

// bodyOf returns a program of these statements.
func bodyOf(l ...api.Stmt) api.Program { return api.Program{Body: l, Result: "r"} }

// exprOf returns the expression with the text s, which is one.
func exprOf(t *testing.T, s string) api.Expr {
	t.Helper()
	return parse(t, "observe "+s+"; return r;").Body[0].Expr
}

// checkExpr reports a text of e that is not want, alone or in a statement.
func checkExpr(t *testing.T, e api.Expr, want string) {
	t.Helper()
	if s, code := printer.Expr(e); code != api.OK || s != want {
		t.Errorf("Expr(%.500s) is %d, %s, not %s", show(e), code, s, want)
	}
	checkPrint(t, bodyOf(api.Stmt{Kind: api.StObserve, Expr: e}), "observe "+want+";\nreturn r;\n")
}

// checkExprError reports an expression that is well-formed, alone or in a statement.
func checkExprError(t *testing.T, e api.Expr) {
	t.Helper()
	if s, code := printer.Expr(e); code != api.ErrForm || s != "" {
		t.Errorf("Expr(%.500s) is %d with the text %.300q", show(e), code, s)
	}
	checkPrintError(t, bodyOf(api.Stmt{Kind: api.StWeight, Expr: e}), api.ErrForm)
}

func node(op int, args ...api.Expr) api.Expr { return api.Expr{Op: op, Args: args} }

func variable(name string) api.Expr { return api.Expr{Op: api.ExName, Name: name} }

func number(n int) api.Expr { return api.Expr{Op: api.ExInt, Int: n} }

func field(e api.Expr, n int) api.Expr {
	return api.Expr{Op: api.ExField, Int: n, Args: []api.Expr{e}}
}

func fraction(r api.Rat) api.Expr { return api.Expr{Op: api.ExRat, Rat: r} }

// ratio returns a Rat with small parts.
func ratio(neg bool, num, den uint32) api.Rat {
	r := api.Rat{Neg: neg, Den: []uint32{den}}
	if num != 0 {
		r.Num = []uint32{num}
	}
	return r
}

func different(x, y api.Expr) api.Expr { return node(api.ExNot, node(api.ExEq, x, y)) }

var (
	a, b, c, d = variable("a"), variable("b"), variable("c"), variable("d")
	yes, no    = api.Expr{Op: api.ExBool, Int: 1}, api.Expr{Op: api.ExBool}
	half       = fraction(ratio(false, 1, 2))
	truth      = api.Type{Kind: api.TypeBool}
)

// P10.3: each operator

func TestOperators(t *testing.T) {
	for _, v := range []struct {
		e    api.Expr
		want string
	}{
		{yes, "true"}, {no, "false"}, {number(0), "0"}, {number(17), "17"}, {number(1000000), "1000000"}, {a, "a"}, {variable("_9"), "_9"},
		{half, "1/2"}, {fraction(ratio(false, 2, 1)), "2/1"}, {fraction(ratio(false, 0, 1)), "0/1"}, {fraction(ratio(false, 1000001, 7)), "1000001/7"},
		{fraction(api.Rat{Num: []uint32{0, 1}, Den: []uint32{1, 0, 1}}), "4294967296/18446744073709551617"},
		{node(api.ExNot, a), "!a"}, {node(api.ExNeg, a), "-a"}, {node(api.ExNeg, number(3)), "-3"}, {node(api.ExNeg, half), "-1/2"},
		{node(api.ExAnd, a, b), "a && b"}, {node(api.ExOr, a, b), "a || b"},
		{node(api.ExEq, a, b), "a == b"}, {node(api.ExLt, a, b), "a < b"}, {node(api.ExLe, a, b), "a <= b"}, {different(a, b), "a != b"},
		{node(api.ExLt, b, a), "b < a"}, {node(api.ExLe, b, a), "b <= a"},
		{node(api.ExAdd, a, b), "a + b"}, {node(api.ExSub, a, b), "a - b"}, {node(api.ExMul, a, b), "a * b"},
		{node(api.ExCond, a, b, c), "a ? b : c"},
		{node(api.ExTuple, a, b), "(a, b)"}, {node(api.ExTuple, a, b, c, d, a), "(a, b, c, d, a)"},
		{field(a, 0), "a.0"}, {field(a, 12), "a.12"}, {field(a, 1000000), "a.1000000"}, {field(number(1), 2), "1.2"}, {field(half, 3), "1/2.3"},
		{node(api.ExList), "[]"}, {node(api.ExList, a), "[a]"}, {node(api.ExList, a, b), "[a, b]"}, {node(api.ExList, a, b, c, d, a), "[a, b, c, d, a]"},
		{node(api.ExPush, a, b), "push(a, b)"}, {node(api.ExLen, a), "len(a)"}, {node(api.ExAt, a, b), "a[b]"}, {node(api.ExAt, number(1), b), "1[b]"},
	} {
		checkExpr(t, v.e, v.want)
	}
}

// The example of the chapter, and what it says of operators of the same level.
func TestParentheses(t *testing.T) {
	checkExpr(t, node(api.ExLt, b, a), "b < a")
	checkExpr(t, node(api.ExAdd, a, node(api.ExAdd, b, c)), "a + (b + c)")
	checkExpr(t, node(api.ExAdd, node(api.ExAdd, a, b), c), "a + b + c")
	for _, s := range []string{
		"a - (b - c)", "a - (b + c)", "a + (b - c)", "a - b + c - d", "a * (b * c)", "a * b * c * d", "a && (b && c)", "a && b && c", "a || (b || c)", "a || b || c",
		"a + b * c", "(a + b) * c", "a * (b - c)", "a * b - c * d", "a * -b", "-a * b", "-(a * b)", "-(a + b)", "--a", "!!a", "!-a", "-!a", "a - -b", "a + --b",
		"(a < b) < c", "a < (b < c)", "(a == b) == (c == d)", "a + b <= c * d", "(a && b) == c", "!a == b", "!(a < b)", "!(a && b)", "-(a == b)",
		"a != b", "!(a != b)", "-(a != b)", "!!(a != b)", "(a != b) != c", "a != (b != c)", "(a != b) == c", "(a != b) * c", "(a != b) + c", "a != b && c != d", "a != b || c", "a != b ? c : d", "(a != b).0", "(a != b)[c]", "a[b != c]", "(a || b) != c", "(a ? b : c) != d", "a + b != -c * d", "!a != b",
		"a ? b : c ? d : a", "a ? b ? c : d : a", "(a ? b : c) ? d : a", "a || b ? c && d : a || b", "a || (b ? c : d)", "(a ? b : c) || d", "!(a ? b : c)", "(a ? b : c).0", "a[b ? c : d]",
		"(a || b) && c", "a || b && c", "a && (b || c)", "a && b || c && d", "a < b && c < d",
		"-a.0", "(-a).0", "-a[b]", "(-a)[b]", "!a.0", "(a + b).0", "(a + b)[c]", "a.0.1", "a[b][c]", "a.0[b].1", "a[b[c]]", "(a, b).0", "[a, b][c]", "len(a).0", "push(a, b)[c]", "true.0", "[].0", "[][a]",
		"(a ? b : c, d)", "[a ? b : c, a || b]", "len(a ? b : c)", "push(a ? b : c, a || b)", "((a, b), c)", "(a, (b, c), [])", "[[]]", "[[a], []]", "len([])", "len((a, b))", "push((a, b), [c])", "-(a, b)", "-[a]", "!len(a)",
		"1/2 + 1/3 * 2/1", "-0/1", "1/2[a]", "1/2.0.0", "-1 + -1/2",
	} {
		checkExpr(t, exprOf(t, s), s)
	}
}

// What the grammar reads in several ways is written in one.
func TestOtherSpellings(t *testing.T) {
	for s, want := range map[string]string{
		"a > b": "b < a", "a >= b": "b <= a", "!(a > b)": "!(b < a)", "a + b > c * d": "c * d < a + b", "!(a == b)": "a != b", "!(a != b)": "!(a != b)",
		"!((a) == (b))": "a != b", "!a != (b)": "!a != b", "(a)": "a", "((a + b))": "a + b", "(a + b) + c": "a + b + c", "(a * b) + c": "a * b + c", "a + (b * c)": "a + b * c",
		"(a < b) && (c < d)": "a < b && c < d", "(a ? b : c)": "a ? b : c", "a ? (b ? c : d) : (d ? c : b)": "a ? b ? c : d : d ? c : b", "(-a) * (-b)": "-a * -b", "-(-a)": "--a", "((a).0)[(b)]": "a.0[b]",
		"a&&b||c": "a && b || c", "a?b:c": "a ? b : c", "- a": "-a", "! a": "!a", "a . 1": "a.1", "a [ b ]": "a[b]", "( a , b )": "(a, b)", "[ ]": "[]", "[ a,b ]": "[a, b]", "len ( a )": "len(a)", "push(a,b)": "push(a, b)",
		"2/4": "1/2", "6/3": "2/1", "0/7": "0/1", "1 / 2": "1/2", "007": "7", "a.00": "a.0", "010/020": "1/2", "!(a == b) && c": "a != b && c", "-!(a == b)": "-(a != b)",
	} {
		checkExpr(t, exprOf(t, s), want)
	}
}

// P10.2: the layout

func TestDraws(t *testing.T) {
	checkBody(t, "x ~ flip(a);", "x ~ flip(1/2);", "x ~ flip(a ? b : c);")
	checkBody(t, "x ~ uniform(-2, 3);", "x ~ uniform(3, -2);", "x ~ uniform(0, 0);", "x ~ uniform(-1000000, 1000000);", "x ~ uniform(1000000, -1000000);")
	checkBody(t, "x ~ table(4; a);", "x ~ table(-4; 1/2, a + b, c);", "x ~ table(0; a ? b : c, (a, b), d);", "x ~ table(-1000000; a);", "x ~ table(1000000; a);")
	checkBody(t, "x ~ binomial(3, 1 - a);", "x ~ binomial(0, a);", "x ~ binomial(1000000, 1/2);")
	checkBody(t, "x ~ geometric(1/2);", "x ~ geometric(2);", "x ~ geometric(0);", "x ~ geometric(-1/2);", "x ~ geometric(-3);", "x ~ geometric(1000001);")
	checkBody(t, "x ~ interval(-1/2, 10);", "x ~ interval(0, 1);", "x ~ interval(5, 1/3);", "x ~ interval(-7, -2/3);")
	checkBody(t, "x ~ beta(2, 3);", "x ~ beta(0, 0);", "x ~ beta(1000000, 1000000);")
	checkBody(t, "x ~ posterior q;", "abcdefghijkl ~ posterior abcdefghijkl;")
}

func TestStatements(t *testing.T) {
	checkBody(t)
	checkBody(t, "x := a;", "y := 1/2 + b;", "x := (a, b);", "x := [];")
	checkBody(t, "x := g();", "x := g(a);", "y := h(a ? b : c, (a, b), []);", "x := x(x);", "x := g(a, b, c, d, a, b);")
	checkBody(t, "observe a;", "weight 1/2;", "observe a != b;", "weight a * b;")
	checkBody(t, "if a {", "}")
	checkBody(t, "if a || b {", "  x := a;", "  y := b;", "}")
	checkBody(t, "if a {", "} else {", "  x := a;", "}")
	checkBody(t, "if a {", "  x := a;", "  observe b;", "} else {", "  y := b;", "  weight c;", "}")
	checkBody(t, "repeat 3 {", "  x := a;", "  x := b;", "}", "repeat 0 {", "}", "repeat 1000000 {", "}")
	checkBody(t, "while !a {", "  x ~ flip(1/2);", "}", "while true {", "}")
	checkBody(t, "if a {", "  if b {", "  }", "} else {", "  if c {", "  } else {", "    while d {", "      repeat 2 {", "        x := a;", "      }", "    }", "  }", "  x := b;", "}", "x := c;")
	checkPrint(t, parse(t, "if a { x := b; } else { } return r;"), "if a {\n  x := b;\n}\nreturn r;\n")
}

func TestTypes(t *testing.T) {
	for _, s := range []string{
		"bool", "nat", "real", "int[-3, 5]", "int[0, 0]", "int[1, -1]", "int[-1000000, 1000000]", "int[1000000, -1000000]",
		"(bool, nat)", "(bool, real, nat, bool, bool, bool)", "((bool, nat), (nat, bool), int[0, 1])", "list[4] int[0, 1]", "list[0] bool", "list[1000000] nat",
		"list[1] list[2] (bool, list[3] real)", "(list[1] bool, list[2] (nat, nat))",
	} {
		checkLines(t, "var x: "+s+";", "return x;")
		checkLines(t, "func f(x: "+s+") {", "  return x;", "}", "return r;")
		checkLines(t, "func f(y: bool, x: "+s+", z: nat) {", "  var v: "+s+";", "  return x;", "}", "return r;")
		checkLines(t, "query q {", "  var v: bool;", "  var x: "+s+";", "  return x;", "}", "return r;")
	}
}

func TestPrograms(t *testing.T) {
	checkLines(t, "return x;")
	checkLines(t, "param p;", "return x;")
	checkLines(t, "param q;", "param p;", "param q;", "var y: nat;", "var x: bool;", "x := a;", "y := b;", "return y;")
	checkLines(t, "func f() {", "  return x;", "}", "return y;")
	checkLines(t, "query f {", "  return x;", "}", "return y;")
	checkLines(t, "param p;",
		"func f(a: bool, b: list[2] int[-1, 2]) {", "  var c: (bool, bool);", "  var a: nat;", "  c := (a, len(b) == 2);", "  if a {", "    x := b;", "  }", "  return a;", "}",
		"func g() {", "  return b;", "}",
		"query k {", "  var d: nat;", "  d ~ geometric(1/2);", "  while d < 2 {", "    d := d + 1;", "  }", "  return d;", "}",
		"query h {", "  return c;", "}",
		"var x: real;", "var y: bool;", "x ~ interval(-1/2, 3);", "y := x < 1;", "return y;")
	// Functions stand in front of queries, wherever they stood.
	p := parse(t, "query h { return a; } func f(x: bool) { return b; } query k { return c; } func g() { return d; } return r;")
	checkPrint(t, p, "func f(x: bool) {\n  return b;\n}\nfunc g() {\n  return d;\n}\nquery h {\n  return a;\n}\nquery k {\n  return c;\n}\nreturn r;\n")
}

// The examples of the document.
func TestExamples(t *testing.T) {
	for _, lines := range [][]string{
		{"var x: bool;", "var y: bool;", "x ~ flip(1/3);", "y ~ flip(1/2);", "observe x || y;", "return x;"},
		{"param p;", "var x: bool;", "x ~ flip(p);", "observe x || false;", "return x;"},
		{"param p;", "var x: bool;", "var y: bool;", "x ~ flip(p);", "y ~ flip(p);", "observe x || y;", "return x;"},
		{"var n: nat;", "n ~ geometric(1/2);", "observe n < 2;", "return n;"},
		{"var x: real;", "var y: real;", "var b: bool;", "x ~ interval(0, 1);", "y ~ interval(0, 2);", "b := x < y;", "return b;"},
		{"var b: bool;", "while !b {", "  b ~ flip(1/2);", "}", "return b;"},
		{"func f(k: int[0, 3]) {", "  var r: bool;", "  r ~ flip(1/2);", "  if 0 < k {", "    if r {", "      r := f(k - 1);", "    }", "  }", "  return r;", "}", "var b: bool;", "b := f(2);", "return b;"},
		{"query q {", "  var c: bool;", "  c ~ flip(1/4);", "  return c;", "}", "var b: bool;", "b ~ posterior q;", "return b;"},
		{"var l: list[2] bool;", "l := push(push([true], false), true);", "return l;"},
		{"var x: bool;", "var y: bool;", "x ~ flip(1/2);", "y ~ flip(1/3);", "observe x;", "return x;"},
	} {
		checkLines(t, lines...)
	}
}
