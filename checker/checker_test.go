package checker_test

import (
	"fmt"
	"slices"
	"strings"
	"testing"

	"exactppl/api"
	"exactppl/checker"
	"exactppl/parser"
)

// show writes all fields of v, with nil and an empty list alike.
func show(v any) string { return fmt.Sprintf("%+v", v) }

// parse returns the program with the text s, which is one.
func parse(t *testing.T, s string) api.Program {
	t.Helper()
	p, pos, e := parser.Parse(s)
	if e != api.OK {
		t.Fatalf("Parse(%.300q) has the error %d at %v", s, e, pos)
	}
	return p
}

// checkError reports an error of p that is not want, and an Info beside an error.
func checkError(t *testing.T, p api.Program, want api.Errno) {
	t.Helper()
	info, e := checker.Check(p)
	if e != want || e != api.OK && show(info) != show(api.Info{}) {
		t.Errorf("Check(%.600s) is %d with %v, not %d", show(p), e, info, want)
	}
}

// verdicts are the errors of texts.
type verdicts []struct {
	text string
	want api.Errno
}

// checkTexts checks the texts with the same text in front of all of them and another one behind.
func checkTexts(t *testing.T, before string, l verdicts, behind string) {
	t.Helper()
	for _, v := range l {
		s := before + v.text + behind
		info, e := checker.Check(parse(t, s))
		if e != v.want || e != api.OK && show(info) != show(api.Info{}) {
			t.Errorf("%.1000q is %d with %v, not %d", s, e, info, v.want)
		}
	}
}

// P11.4: programs that are not well-formed

func TestForm(t *testing.T) {
	truth := api.Type{Kind: api.TypeBool}
	x := []api.Decl{{Name: "x", Type: truth}}
	statement := func(s api.Stmt) api.Program {
		return api.Program{Vars: x, Body: []api.Stmt{s}, Result: "x"}
	}
	name := api.Expr{Op: api.ExName, Name: "x"}
	deep := name
	for range api.MaxDepth {
		deep = api.Expr{Op: api.ExNot, Args: []api.Expr{{Op: api.ExOr, Args: []api.Expr{name, deep}}}}
	}
	checkError(t, statement(api.Stmt{Kind: api.StObserve, Expr: deep}), api.OK)
	for _, p := range []api.Program{
		{}, {Result: "if"}, {Vars: x}, {Vars: x, Result: "abcdefghijklm"}, {Params: []string{""}, Vars: x, Result: "x"}, {Vars: []api.Decl{{Name: "x"}}, Result: "x"},
		{Vars: []api.Decl{{Name: "x", Type: api.Type{Kind: 7}}}, Result: "x"}, {Vars: []api.Decl{{Name: "x", Type: api.Type{Kind: api.TypeTuple, Elems: []api.Type{truth}}}}, Result: "x"},
		{Queries: []api.Func{{Name: "q", Args: x, Result: "x"}}, Vars: x, Result: "x"}, {Funcs: []api.Func{{Name: "f", Vars: x}}, Vars: x, Result: "x"},
		statement(api.Stmt{}), statement(api.Stmt{Kind: 9}), statement(api.Stmt{Kind: api.StObserve}), statement(api.Stmt{Kind: api.StObserve, Expr: api.Expr{Op: 22}}), statement(api.Stmt{Kind: api.StObserve, Expr: name, Name: "x"}),
		statement(api.Stmt{Kind: api.StObserve, Expr: api.Expr{Op: api.ExNot}}), statement(api.Stmt{Kind: api.StObserve, Expr: api.Expr{Op: api.ExAnd, Args: []api.Expr{name}}}), statement(api.Stmt{Kind: api.StRepeat, Int: -1}),
		statement(api.Stmt{Kind: api.StWeight, Expr: api.Expr{Op: api.ExInt, Int: -1}}), statement(api.Stmt{Kind: api.StWeight, Expr: api.Expr{Op: api.ExRat, Rat: api.Rat{Num: []uint32{2}, Den: []uint32{4}}}}),
		statement(api.Stmt{Kind: api.StDraw, Name: "x"}), statement(api.Stmt{Kind: api.StDraw, Name: "x", Draw: api.Draw{Kind: 9}}), statement(api.Stmt{Kind: api.StDraw, Name: "x", Draw: api.Draw{Kind: api.DrawFlip}}),
		statement(api.Stmt{Kind: api.StObserve, Expr: api.Expr{Op: api.ExNot, Args: []api.Expr{{Op: api.ExOr, Args: []api.Expr{name, deep}}}}}),
	} {
		checkError(t, p, api.ErrForm)
		p.Params = append(p.Params, "p", "p", "p", "p") // which would be ErrLimit
		checkError(t, p, api.ErrForm)
	}
}

// A program whose text is longer than MaxText is checked as others are.
func TestLongPrograms(t *testing.T) {
	p := parse(t, "var x: bool; observe x; return x;")
	p.Body = slices.Repeat(p.Body, api.MaxText)
	if info, e := checker.Check(p); e != api.OK || info.Conditions != api.MaxText {
		t.Error("the Info is", info, e)
	}
	p.Result = "y"
	checkError(t, p, api.ErrName)
	p.Body[0].Expr.Name = "1"
	checkError(t, p, api.ErrForm)
}

// P11.4: names

const truth = "var x: bool; return x; "

func TestParameters(t *testing.T) {
	checkTexts(t, "", verdicts{
		{"", api.OK},
		{"param p; param q; param r; ", api.OK},
		{"param p; param q; param p; ", api.ErrName},
		{"param p; param p; ", api.ErrName},
		{"param p; param q; param r; param s; ", api.ErrLimit},
		{"param p; param p; param p; param p; ", api.ErrLimit},
		{"param p; param p; " + strings.Repeat("func f() { return x; } ", 9), api.ErrName},
		{"param p; param q; param r; param s; func p() { return x; } ", api.ErrLimit},
	}, truth)
}

// several returns n functions or queries that begin with the word, in which # is another letter each time.
func several(word string, n int) string {
	s := ""
	for i := range n {
		s += strings.Replace(word, "#", string(rune('a'+i)), 1) + " { var v: bool; return v; } "
	}
	return s
}

func TestFunctionNames(t *testing.T) {
	functions, queries := several("func f#() ", 8), several("query q# ", 8)
	checkTexts(t, "param p; ", verdicts{
		{functions + queries, api.OK},
		{functions + "func g() { return y; } ", api.ErrLimit},
		{functions + "func fa() { return y; } ", api.ErrLimit},
		{queries + "query g { return y; } ", api.ErrLimit},
		{strings.Repeat("query p { return y; } ", 9), api.ErrLimit},
		{"func f() { var v: bool; return v; } func g() { var v: bool; return v; } func f() { return y; } ", api.ErrName},
		{"query f { var v: bool; return v; } query g { var v: bool; return v; } query f { return y; } ", api.ErrName},
		{"func f() { var v: bool; return v; } query f { var v: bool; return v; } ", api.ErrName},
		{"query f { var v: bool; return v; } func f() { var v: bool; return v; } ", api.ErrName},
		{"func p() { var v: bool; return v; } ", api.ErrName},
		{"query p { var v: bool; return v; } ", api.ErrName},
		{"func f() { var v: int[2, 1]; return v; } query p { return y; } ", api.ErrName}, // names come before blocks
		{"func f() { var v: int[2, 1]; return v; } query g { return y; } ", api.ErrRange},
	}, truth)
}

func TestVariableNames(t *testing.T) {
	checkTexts(t, "param p; func f(a: bool) { var b: bool; return b; } func g() { ", verdicts{
		{"var a: bool; return a; } query q { var b: bool; return b; } var a: bool; var b: bool; ", api.OK},
		{"var p: bool; return p; } query q { var b: bool; return b; } ", api.ErrName},
		{"var f: bool; return f; } query q { var b: bool; return b; } ", api.ErrName},
		{"var g: bool; return g; } query q { var b: bool; return b; } ", api.ErrName},
		{"var q: bool; return q; } query q { var b: bool; return b; } ", api.ErrName},
		{"var a: bool; var b: bool; var a: bool; return a; } query q { var b: bool; return b; } ", api.ErrName},
		{"var a: bool; return a; } query q { var p: bool; return p; } ", api.ErrName},
		{"var a: bool; return a; } query q { var q: bool; return q; } ", api.ErrName},
		{"var a: bool; return a; } query q { var g: bool; return g; } ", api.ErrName},
		{"var a: bool; return a; } query q { var b: bool; var b: bool; return b; } ", api.ErrName},
		{"var a: bool; return a; } var p: bool; ", api.ErrName},
		{"var a: bool; return a; } var f: bool; ", api.ErrName},
		{"var a: bool; return a; } query q { var b: bool; return b; } var q: bool; ", api.ErrName},
		{"var a: bool; return a; } var c: bool; var c: bool; ", api.ErrName},
		{"var a: bool; return a; } var c: bool; var c: int[2, 1]; ", api.ErrName},
		{"var a: bool; return b; } ", api.ErrName}, // a variable of another function
		{"var a: bool; return p; } ", api.ErrName},
		{"var a: bool; return f; } ", api.ErrName},
		{"var a: bool; return x; } ", api.ErrName},
		{"var a: bool; return a; } query q { var b: bool; return a; } ", api.ErrName},
		{"var a: bool; return a; } query q { var b: bool; return q; } ", api.ErrName},
		{"return a; } ", api.ErrName},
	}, truth)
	checkTexts(t, "func f(a: bool, ", verdicts{
		{"b: bool) { var c: bool; return a; } ", api.OK},
		{"a: bool) { var c: bool; return a; } ", api.ErrName},
		{"f: bool) { var c: bool; return a; } ", api.ErrName},
		{"b: bool) { var b: bool; return a; } ", api.ErrName},
		{"b: bool) { var c: bool; c := x; return a; } ", api.ErrName},
	}, truth)
	checkTexts(t, "func f(a: bool) { return a; } var x: bool; ", verdicts{
		{"return x;", api.OK}, {"return y;", api.ErrName}, {"return f;", api.ErrName}, {"return a;", api.ErrName},
		{"x := y; return y;", api.ErrName}, {"x := 1; return y;", api.ErrType},
		{"x := a; return x;", api.ErrName}, {"x := f; return x;", api.ErrName}, {"f := x; return x;", api.ErrName}, {"a := x; return x;", api.ErrName},
	}, "")
}

// P11.4: types of variables

func TestTypesOfVariables(t *testing.T) {
	bad := verdicts{
		{"int[-1000, 1000]", api.OK}, {"int[2, 1]", api.ErrRange}, {"int[0, 1001]", api.ErrRange}, {"list[4] bool", api.OK}, {"list[5] bool", api.ErrRange}, {"list[0] bool", api.ErrRange}, {"list[1] list[1] bool", api.ErrClass}, {"list[1] nat", api.ErrClass},
		{"(bool, bool, bool, bool, bool)", api.ErrRange}, {"(bool, nat)", api.ErrClass}, {"(real, bool)", api.ErrClass}, {"(bool, int[1, 0])", api.ErrRange},
		{"(list[4] bool, list[4] bool, list[4] bool, list[4] bool)", api.OK}, {"((list[4] bool, list[4] bool, list[4] bool, list[4] bool), list[4] bool)", api.ErrLimit},
		{"list[1] list[1] list[1] list[1] list[1] list[1] list[1] list[1] list[1] list[1] bool", api.ErrLimit},
	}
	checkTexts(t, "var y: ", bad, "; "+truth)
	checkTexts(t, "func f(a: ", bad, ") { return a; } "+truth)
	checkTexts(t, "func f() { var v: ", bad, "; return v; } "+truth)
	checkTexts(t, "query q { var v: ", bad, "; var w: bool; return w; } "+truth)
}

func TestClasses(t *testing.T) {
	checkTexts(t, "", verdicts{
		{"var y: nat; var z: nat; ", api.OK}, {"var y: real; var z: real; ", api.OK}, {"var y: nat; var z: real; ", api.ErrClass}, {"var y: real; var z: nat; ", api.ErrClass},
		{"var y: nat; var v: bool; var z: real; ", api.ErrClass}, {"var y: real; var v: int[0, 1]; var w: real; var z: nat; ", api.ErrClass},
		{"var y: nat; var y: real; ", api.ErrName}, {"var y: nat; var z: real; var y: bool; ", api.ErrClass}, {"var y: real; var z: (bool, nat); ", api.ErrClass},
		{"func f(a: nat) { return a; } ", api.ErrClass}, {"func f(a: real) { return a; } ", api.ErrClass}, {"func f() { var a: nat; return a; } ", api.ErrClass}, {"func f() { var a: real; return a; } ", api.ErrClass},
		{"query f { var a: nat; return a; } ", api.ErrClass}, {"query f { var a: real; return a; } ", api.ErrClass}, {"query f { var a: bool; var b: nat; return a; } ", api.ErrClass},
		{"func f() { var a: bool; return a; } var y: real; ", api.OK}, {"query f { var a: bool; return a; } var y: nat; ", api.OK},
		{"func f() { var a: nat; var a: bool; return a; } ", api.ErrClass}, {"func f() { var a: bool; var a: nat; return a; } ", api.ErrName},
	}, truth)
}

// twenty is a type of 20 cells.
const twenty = "(list[4] bool, list[4] bool, list[4] bool, list[4] bool)"

// The variables of a block have at most 64 cells.
func TestWidths(t *testing.T) {
	const names = "abcde"
	for _, v := range (verdicts{{"bool", api.OK}, {"(bool, bool)", api.ErrLimit}, {"list[1] bool", api.ErrLimit}, {"int[2, 1]", api.ErrRange}}) {
		var l []string
		for i, s := range []string{twenty, twenty, twenty, "list[2] bool", v.text} {
			l = append(l, names[i:i+1]+": "+s)
		}
		variables := "var " + strings.Join(l, "; var ") + "; "
		checkTexts(t, "", verdicts{
			{variables + "return a;", v.want},
			{"func f() { " + variables + "return a; } " + truth, v.want},
			{"func f(" + strings.Join(l[1:], ", ") + ") { var " + l[0] + "; return a; } " + truth, v.want},
			{"func f(" + strings.Join(l[:4], ", ") + ") { var " + l[4] + "; return a; } " + truth, v.want},
			{"query q { " + variables + "return e; } " + truth, v.want},
		}, "")
	}
	checkTexts(t, "var a: "+twenty+"; var b: "+twenty+"; var c: "+twenty+"; var d: "+twenty+"; ", verdicts{
		{"", api.ErrLimit}, {"x := 1; ", api.ErrLimit}, {"var a: bool; ", api.ErrName}, {"var e: int[2, 1]; ", api.ErrRange}, {"var e: nat; var f: real; ", api.ErrClass},
	}, "return y;")
}

func TestManyParameters(t *testing.T) {
	checkTexts(t, "func f(a: bool, b: bool, c: bool, d: bool", verdicts{
		{") { return a; } ", api.OK}, {", e: bool) { return a; } ", api.ErrLimit}, {", a: bool) { return a; } ", api.ErrLimit}, {", e: int[2, 1]) { return y; } ", api.ErrLimit},
		{") { return a; } func g(a: bool, b: bool, c: bool, d: bool, e: bool) { return a; } ", api.ErrLimit},
		{") { return y; } func g(a: bool, b: bool, c: bool, d: bool, e: bool) { return a; } ", api.ErrName},
		{") { var e: bool; var g: bool; return g; } ", api.OK},
	}, truth)
}
