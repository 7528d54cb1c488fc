package checker_test

import (
	"strings"
	"testing"

	"exactppl/api"
)

// P11.4: statements and results

func TestAssignments(t *testing.T) {
	checkTexts(t, "param p; func f() { var v: bool; return v; } var b: bool; var i: int[0, 9]; ", verdicts{
		{"b := b; ", api.OK}, {"i := 1000000; ", api.OK}, {"z := b; ", api.ErrName}, {"p := b; ", api.ErrName}, {"f := b; ", api.ErrName}, {"v := b; ", api.ErrName},
		{"z := 1 && b; ", api.ErrName}, {"b := z; ", api.ErrName}, {"b := 1 && b; ", api.ErrType}, {"b := i; ", api.ErrType}, {"i := 1/2 == 1/2; ", api.ErrMeasure}, {"i := b; ", api.ErrType},
		{"b := i; z := b; ", api.ErrType}, {"z := b; b := i; ", api.ErrName}, {"b := b; i := b; ", api.ErrType},
	}, "return b;")
}

// around puts statements into bodies in all places of a program.
func around(s string) []string {
	const v = "var b: bool; var i: int[0, 9]; var l: list[2] bool; "
	var texts []string
	for _, body := range []string{"#", "b := b; # i := i;", "if b { # }", "if b { } else { # }", "if b { b := b; } else { i := i; # }", "repeat 0 { # }", "repeat 8 { b := b; # }", "if b { if b { repeat 2 { # } } }"} {
		inner := strings.Replace(body, "#", s, 1)
		texts = append(texts, v+inner+" return b;", "func f(w: bool) { "+v+inner+" return b; } "+truth, "query q { "+v+inner+" return b; } "+truth)
	}
	return append(texts, v+"while b { "+s+" } return b;", "func f() { "+v+"while b { if b { } else { "+s+" } } return b; } "+truth)
}

// Each statement in each place.
func TestPlaces(t *testing.T) {
	for _, v := range (verdicts{
		{"b := b;", api.OK}, {"z := b;", api.ErrName}, {"b := z;", api.ErrName}, {"b := i;", api.ErrType}, {"b := 1/2 == i;", api.ErrMeasure},
		{"b ~ flip(1/2);", api.OK}, {"z ~ flip(1/2);", api.ErrName}, {"z ~ flip(2);", api.ErrName}, {"b ~ flip(2);", api.ErrRange}, {"i ~ flip(1/2);", api.ErrType}, {"b ~ flip(i);", api.ErrName}, {"b ~ flip(b);", api.ErrName},
		{"observe b;", api.OK}, {"observe i;", api.ErrType}, {"observe z;", api.ErrName}, {"observe l;", api.ErrType}, {"observe 1/2 == 1/2;", api.ErrMeasure},
		{"weight 1/2;", api.OK}, {"weight 2;", api.ErrRange}, {"weight b;", api.ErrName}, {"weight true;", api.ErrType},
		{"if b { }", api.OK}, {"if i { }", api.ErrType}, {"if z { }", api.ErrName}, {"if i { z := b; }", api.ErrType}, {"if b { z := b; }", api.ErrName}, {"if b { b := i; } else { z := b; }", api.ErrType}, {"if b { } else { z := b; }", api.ErrName}, {"if l == [1] { }", api.ErrType},
		{"repeat 8 { }", api.OK}, {"repeat 9 { }", api.ErrLimit}, {"repeat 1000000 { z := b; }", api.ErrLimit}, {"repeat 0 { z := b; }", api.ErrName}, {"repeat 8 { repeat 8 { b := b; } }", api.OK},
	}) {
		for _, s := range around(v.text) {
			checkTexts(t, "", verdicts{{s, v.want}}, "")
		}
	}
}

func TestWhile(t *testing.T) {
	l := verdicts{{"while b { }", api.OK}, {"while b { b := false; }", api.OK}, {"while i { z := b; }", api.ErrType}, {"while z { }", api.ErrName}, {"while b { z := b; }", api.ErrName}, {"while b { observe i; }", api.ErrType}, {"while 1/2 == 1/2 { }", api.ErrMeasure}}
	const v = "var b: bool; var i: int[0, 9]; "
	checkTexts(t, v, l, " return b;")
	checkTexts(t, "func f() { "+v, l, " return b; } "+truth)
	for _, s := range l {
		if s.want == api.OK || strings.Contains(s.text, "while b") {
			s.want = api.ErrClass // comes after the condition, and before the body
		}
		checkTexts(t, "query f { "+v, verdicts{s}, " return b; } "+truth)
	}
}

// Statements are examined in order, with the bodies after the rest of a statement.
func TestOrderOfStatements(t *testing.T) {
	wrong := verdicts{{"z := b;", api.ErrName}, {"b := i;", api.ErrType}, {"observe 1/2 == i;", api.ErrMeasure}, {"repeat 9 { }", api.ErrLimit}, {"weight 2;", api.ErrRange}}
	for _, v := range wrong {
		for _, w := range wrong {
			for _, pattern := range []string{"@ #", "b := b; @ #", "if b { @ # }", "if b { @ } #", "if b { @ } else { # }", "if b { } else { @ # }", "repeat 2 { @ } #", "while b { @ } #", "@ while z { # }", "if b { if b { @ } # }", "if b { repeat 1 { while b { @ } } } else { # }"} {
				s := strings.NewReplacer("@", v.text, "#", w.text).Replace(pattern)
				checkTexts(t, "var b: bool; var i: int[0, 9]; ", verdicts{{s, v.want}}, " return y;")
			}
		}
		checkTexts(t, "var b: bool; var i: int[0, 9]; "+v.text, verdicts{{"", v.want}}, " return y;")
		for _, behind := range []string{"query f { return y; }", "query f { var v: nat; return v; }", "func f() { return y; }"} {
			checkTexts(t, "func g() { var b: bool; var i: int[0, 9]; ", verdicts{{v.text + " return b; } " + behind, v.want}}, " var x: int[2, 1]; return x;")
		}
		checkTexts(t, "query g { var b: bool; var i: int[0, 9]; "+v.text, verdicts{{" return b; } query f { return y; }", v.want}, {" return y; }", v.want}, {"return b; } var z: int[2, 1]; ", v.want}}, truth)
		checkTexts(t, "query g { var b: bool; var i: int[0, 9]; "+v.text, verdicts{{" return b; } func f() { return y; } ", api.ErrName}, {" return b; } func f() { var v: list[9] bool; return v; } ", api.ErrRange}}, truth)
	}
}

func TestCalls(t *testing.T) {
	const functions = "func f(a: bool, c: list[2] int[0, 1]) { var d: int[0, 1]; return d; } func g() { var v: (bool, bool); return v; } func h(a: int[0, 9], c: (bool, list[1] bool)) { return a; } query q { var v: bool; return v; } "
	const v = functions + "var b: bool; var i: int[0, 1]; var j: int[0, 2]; var k: int[0, 9]; var t: (bool, bool); var x: real; "
	checkTexts(t, v, verdicts{
		{"i := f(b, [1]); ", api.OK}, {"i := f(true, []); ", api.OK}, {"t := g(); ", api.OK}, {"k := h(1000000, (b, [b])); ", api.OK}, {"k := h(i * j, (b, [])); ", api.OK},
		{"i := f(b); ", api.ErrType}, {"i := f(); ", api.ErrType}, {"i := f(b, [1], b); ", api.ErrType}, {"t := g(b); ", api.ErrType},
		{"z := f(b, [1]); ", api.ErrName}, {"z := r(z); ", api.ErrName}, {"i := r(); ", api.ErrName}, {"i := q(); ", api.ErrName}, {"b := q(); ", api.ErrName}, {"i := i(); ", api.ErrName}, {"f := f(b, []); ", api.ErrName},
		{"i := f(z); ", api.ErrType}, {"i := f(z, []); ", api.ErrName}, {"i := f(i, z); ", api.ErrType}, {"i := f(b, z); ", api.ErrName}, {"j := f(b, z); ", api.ErrName}, {"j := f(b, [b]); ", api.ErrType}, {"i := f(b, [1, 2, 3]); ", api.ErrType}, {"i := f(x == x, z); ", api.ErrMeasure}, {"i := f(i, x == x); ", api.ErrType},
		{"j := f(b, []); ", api.ErrType}, {"k := f(b, []); ", api.ErrType}, {"b := f(b, []); ", api.ErrType}, {"x := f(b, []); ", api.ErrType}, {"b := g(); ", api.ErrType}, {"i := h(1, (b, [])); ", api.ErrType}, {"k := h(x, (b, [])); ", api.ErrType}, {"k := h(1, (b, [b, b])); ", api.ErrType},
		{"i := i + 1; i := f(b, []); j := f(b, []); ", api.ErrType},
	}, "return b;")
	checkTexts(t, functions+"var n: nat; var b: bool; ", verdicts{{"n := f(b, []); ", api.ErrType}, {"n := h(n, (b, [])); ", api.ErrType}}, "return b;")
}

// Calls of functions whose blocks are examined later, and in queries.
func TestCallsOfLaterFunctions(t *testing.T) {
	const before = "func f() { var b: bool; var i: int[0, 1]; var t: (bool, int[0, 1]); "
	checkTexts(t, before, verdicts{
		{"b := g(b); return b; } func g(a: bool) { return a; } ", api.OK},
		{"b := f(); return b; } ", api.OK},
		{"i := f(); return b; } ", api.ErrType},
		{"i := g(b); return b; } func g(a: bool) { return a; } ", api.ErrType},
		{"b := g(b); return b; } func g(a: bool) { return z; } ", api.ErrName}, // found in the block of g
		{"b := g(i); return b; } func g(a: bool) { return z; } ", api.ErrType},
		{"i := g(b); return z; } func g(a: bool) { return q; } query q { return z; } ", api.ErrName},
		{"b := g(b); return b; } func g(a: int[2, 1]) { return a; } ", api.ErrType},
		{"i := g(i); return b; } func g(a: int[2, 1]) { return a; } ", api.ErrType},
		{"b := g(i); return b; } func g(a: int[2, 1]) { var c: bool; return c; } ", api.ErrRange},
		{"b := g(i); return b; } func g(a: nat) { var c: bool; return c; } ", api.ErrClass},
		{"b := g(i); return b; } func g(a: real) { var c: bool; return c; } ", api.ErrClass},
		{"b := g(b); return b; } func g(a: real) { var c: bool; return c; } ", api.ErrType},
		{"b := g(t); return b; } func g(a: (bool, real)) { var c: bool; return c; } ", api.ErrClass},
		{"b := g(t); return b; } func g(a: (bool, nat)) { var c: bool; return c; } ", api.ErrClass},
		{"b := g(t); return b; } func g(a: (real, bool)) { var c: bool; return c; } ", api.ErrType},
		{"b := g([1]); return b; } func g(a: list[1] nat) { var c: bool; return c; } ", api.ErrClass},
		{"b := g([1]); return b; } func g(a: list[0] int[0, 1]) { var c: bool; return c; } ", api.ErrType},
		{"b := g([]); return b; } func g(a: list[0] int[0, 1]) { var c: bool; return c; } ", api.ErrRange},
		{"b := g([1, 2, 3, 4]); return b; } func g(a: list[9] int[0, 1]) { var c: bool; return c; } ", api.ErrRange},
		{"b := g([]); return b; } func g(a: list[2] list[2] bool) { var c: bool; return c; } ", api.ErrClass},
		{"b := g([b]); return b; } func g(a: list[2] list[2] bool) { var c: bool; return c; } ", api.ErrType},
		{"b := g((b, b, b, b, b)); return b; } func g(a: (bool, bool, bool, bool, bool)) { var c: bool; return c; } ", api.ErrRange},
		{"b := g(b, b, b, b, b); return b; } func g(a: bool, c: bool, d: bool, e: bool, h: bool) { return a; } ", api.ErrLimit},
		{"b := g(b, b, b, b); return b; } func g(a: bool, c: bool, d: bool, e: bool, h: bool) { return a; } ", api.ErrType},
	}, truth)
	const functions = "func f(a: bool) { return a; } "
	checkTexts(t, functions+"query g { var b: bool; var i: int[0, 1]; ", verdicts{{"b := f(b); ", api.ErrClass}, {"i := f(z); ", api.ErrClass}, {"b := h(); ", api.ErrClass}, {"b := g(); ", api.ErrClass}, {"z := f(b); ", api.ErrName}}, "return b; } "+truth)
}

func TestResults(t *testing.T) {
	outcomes := verdicts{
		{"bool", api.OK}, {"int[0, 15]", api.OK}, {"int[0, 16]", api.ErrClass}, {"int[-5, 10]", api.OK}, {"int[-5, 11]", api.ErrClass}, {"int[-1000, 1000]", api.ErrClass}, {"int[7, 7]", api.OK},
		{"(bool, bool)", api.ErrClass}, {"(bool, int[0, 1])", api.ErrClass}, {"list[1] bool", api.ErrClass}, {"nat", api.ErrClass}, {"real", api.ErrClass},
	}
	checkTexts(t, "query q { var v: ", outcomes, "; return v; } "+truth)
	checkTexts(t, "query q { var w: bool; var v: ", outcomes, "; w := w; return v; } "+truth)
	for _, v := range outcomes {
		want := api.OK
		if v.text == "nat" || v.text == "real" {
			want = api.ErrClass
		}
		checkTexts(t, "func f() { var v: ", verdicts{{v.text, want}}, "; return v; } "+truth)
		checkTexts(t, "var v: ", verdicts{{v.text, api.OK}}, "; return v;")
		checkTexts(t, "query q { var v: ", verdicts{{v.text, want}}, "; var b: bool; return b; } "+truth)
		checkTexts(t, "query q { var v: ", verdicts{{v.text, max(want, api.ErrName)}}, "; return w; } "+truth)
		checkTexts(t, "query q { var v: ", verdicts{{v.text, max(want, api.ErrType)}}, "; observe 1; return w; } "+truth)
	}
}
