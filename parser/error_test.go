package parser_test

import (
	"strings"
	"testing"

	"exactppl/api"
	"exactppl/parser"
)

// P9.2

// checkError reports an error of s that is not want at this place, and a program beside it.
func checkError(t *testing.T, s string, line, col int, want api.Errno) {
	t.Helper()
	p, pos, e := parser.Parse(s)
	if e != want || pos != (api.Pos{Line: line, Col: col}) || show(p) != show(api.Program{}) {
		t.Errorf("Parse(%.200q) has the error %d at %v and the program %+v, not %d at {%d %d}", s, e, pos, p, want, line, col)
	}
}

// checkMarked checks s, in which a $ stands before the token with the error, alone and with other lines.
func checkMarked(t *testing.T, s string, want api.Errno) {
	t.Helper()
	before, after, found := strings.Cut(s, "$")
	if !found {
		t.Fatalf("%q has no mark", s)
	}
	checkError(t, before+after, 1, len(before)+1, want)
	checkError(t, "# a\n\n  "+before+after, 3, len(before)+3, want)
	checkError(t, before+"\n\t# (\n"+after, 3, 1, want)
}

// checkSyntax checks marked texts of syntax errors, which stand behind the same tokens.
func checkSyntax(t *testing.T, before string, texts ...string) {
	t.Helper()
	for _, s := range texts {
		checkMarked(t, before+s, api.ErrSyntax)
	}
}

func TestErrorsOfTheLexer(t *testing.T) {
	checkError(t, "return x @", 1, 10, api.ErrSyntax)
	checkError(t, ")\n abcdefghijklm", 2, 2, api.ErrLimit)
	checkError(t, "observe 1000001 =", 1, 17, api.ErrSyntax)
	checkError(t, "observe 1/0; &", 1, 14, api.ErrSyntax)
	checkError(t, strings.Repeat("(", 20)+" "+strings.Repeat("1", 61), 1, 22, api.ErrLimit)
	checkError(t, "abcdefghijklm", 1, 1, api.ErrLimit)
	checkError(t, strings.Repeat(")", api.MaxText+1), 1, 1, api.ErrLimit)
	checkError(t, "return x;"+strings.Repeat("\n", api.MaxText-8), 1, 1, api.ErrLimit)
	parse(t, "return x;"+strings.Repeat("\n", api.MaxText-9))
}

func TestSyntaxOfPrograms(t *testing.T) {
	checkSyntax(t, "", "$", "$;", "$1", "$}", "$bool;", "$else", "x$", "x $return x;", "p$;")
	checkSyntax(t, "return ", "$", "$;", "$1;", "$if;", "$(x);", "$true;", "x$", "x$.0;", "x$, y;", "x; $y", "x; $return x;", "x;$;", "x; $}")
	checkSyntax(t, "param ", "$", "$;", "$1;", "$var;", "p$", "p$, q;", "p$: bool;", "p;$", "p;$;", "p; q$;")
	checkSyntax(t, "var ", "$", "$:", "$1: bool;", "$bool: bool;", "x$", "x $bool;", "x$, y: bool;", "x$:= 1;", "x: bool$", "x: bool $return x;", "x: bool $:= 1;", "x: bool$, y: bool;", "x: bool; $param p;", "x: bool; $func g() { return x; }", "x: bool; $query g { return x; }")
	checkSyntax(t, "x := 1; ", "$", "$param p;", "$var y: bool;", "$func g() { return x; }", "$query g { return x; }", "$;", "$}")
	checkSyntax(t, "func ", "$", "$() {", "$if() {", "$1() {", "g$", "g$;", "g ${ return x; }", "g$[x: bool]", "g()$", "g()$;", "g() $return x;", "g()$: bool {")
	checkSyntax(t, "func g(", "$", "$1", "$,", "$;", "$var x: bool)", "x$", "x$)", "x$, y: bool)", "x $bool)", "x$:= 1)", "x: bool$", "x: bool,$", "x: bool,$) {", "x: bool$; y: bool) {", "x: bool $y: bool", "x: bool$] {")
	checkSyntax(t, "query ", "$", "${", "$posterior {", "g$", "g$(", "g$() { return x; }", "g $return x;", "g$;")
	for _, before := range []string{"func g() { ", "query g { ", "param p; func h(x: bool, y: nat) { var x: bool; ", "query h { return x; } query g { var y: nat; "} {
		checkSyntax(t, before, "$", "$}", "$;", "$param p;", "$func h() {", "$query h {", "return $}", "return x$", "return x $}", "return x;$", "return x; $return x;", "return x; $x := 1;", "return x; }$", "return x; }$;", "return x; } $param p;", "return x; }$}", "x := 1; $var x: bool;")
	}
}

func TestSyntaxOfTypes(t *testing.T) {
	for _, before := range []string{"var x: ", "func g(x: ", "func g(y: bool, x: ", "query q { var y: nat; var x: ", "var x: (bool, ", "var x: list[1] "} {
		checkSyntax(t, before, "$", "$;", "$)", "$,", "$true", "$x", "$1", "$[bool]", "$list1", "$*", "$tuple",
			"bool$.0", "bool $bool", "nat$[1]", "real$*", "nat $real", "(bool, nat) $nat", "(bool, nat)$.0",
			"int$;", "int$(1, 2)", "int[$]", "int[1$]", "int[1$; 2]", "int[1$..2]", "int[1, 2$, 3]", "int[1, $]", "int[1, 2$", "int[$x, 2]", "int[1, $x]", "int[$+1, 2]", "int[-$-1, 2]", "int[1$/2, 2]", "int[1, 2$/1]", "int[1, -$x]", "int[$(1), 2]", "int[1, 2 $+ 1]", "int[1, 2$)", "int[-$]",
			"list$;", "list $bool", "list$(1) bool", "list[$] bool", "list[$-1] bool", "list[1$, 2] bool", "list[1$/1] bool", "list[1]$", "list[1] $1", "list[$x] bool", "list[1]$;", "list[1$) bool",
			"($)", "($,bool)", "(bool$)", "(bool,$)", "(bool, bool,$)", "(bool, bool$;", "(bool$; bool)", "((bool, bool)$)", "(bool, bool$]", "(bool $bool)", "($x: bool, y: bool)", "($", "(bool$")
	}
	checkSyntax(t, "var x: ", "bool$)", "bool$, bool", "(bool, nat)$)")
	checkSyntax(t, "func g(x: ", "bool$;", "bool, $bool")
}

func TestSyntaxOfStatements(t *testing.T) {
	for _, before := range []string{"", "var x: bool; y := 2; ", "func g() { ", "query g { repeat 1 { } ", "while b { repeat 2 { ", "if a { } else { x := 1; "} {
		checkSyntax(t, before, "$;", "${ }", "$1 := 2;", "$true := 1;", "$(x) := 1;", "$else { }", "$:= 1;", "$len(a);", "$flip(a);", "$posterior q;", "$bool := 1;", "$!x;")
		checkSyntax(t, before+"x", "$", "$;", "$: 1;", "$== 1;", "$.0 := 1;", "$[0] := 1;", "$(a);", "$, y := 1;", " $observe a;", " $y := 1;")
		checkSyntax(t, before+"x := ", "$", "$;", "1$", "1 $y := 2;", "1$, 2;", "y $:= 1;", "1 $~ flip(a);", "$flip(1/2);", "$posterior q;", "1;$;", "a $}", "a$);", "a$];")
		checkSyntax(t, before+"x ~ ", "$", "$;", "$g(1);", "$1;", "$(flip(1));", "$true;", "$x;", "flip(a)$", "flip(a) $y := 1;", "flip(a)$, flip(b);")
		checkSyntax(t, before+"x := g(", "$", "$,a);", "$;", "a,$);", "a$;", "a $b);", "a$];", "a$; b);", "a)$.0;", "a)$[0];", "a) $+ 1;", "a)$(b);", "a) $? b : c;", "a)$", ")$", ")$()", "h$(a));", "a, h$(a));", "a) $}")
		checkSyntax(t, before+"x := ", "(g)$(a);", "a + g$(b);", "-g$(b);", "[g$(a)];", "g.0$(a);", "g[0]$(a);", "g + h$(a);", "1$(a);", "true$(a);")
		checkSyntax(t, before+"observe ", "$", "$;", "a$", "a $}", "a $observe b;", "g$(a);", "a$, b;", "$flip(a);", "a $:= b;", "a $~ b;")
		checkSyntax(t, before+"weight ", "$", "$;", "a$", "a $}", "a $weight b;", "g$(a);", "a$, b;")
		checkSyntax(t, before+"if ", "$", "${ }", "a$", "a$;", "a {$", "a { x := 1 $}", "a $x := 1;", "(a ${ }", "a { } else$", "a { } else $if b { }", "a { } else $x := 1;", "a { } else { } $else { }", "a { $return x; }", "a { $var x: bool; }", "a { }$;", "a { $; }", "a { $else { } }", "a {$)", "a $: b")
		checkSyntax(t, before+"repeat ", "$", "$a { }", "$-1 { }", "${ }", "1$", "1$;", "1 { $", "1$/2 { }", "1 $+ 1 { }", "$(1) { }", "1 { $return x; }", "1 { } $else { }", "1 $x := 1;")
		checkSyntax(t, before+"while ", "$", "${ }", "a$", "a$;", "a { $", "a { } $else { }", "a { $return x; }", "a { ${ } }", "a $x := 1;")
	}
}

func TestSyntaxOfDraws(t *testing.T) {
	for _, before := range []string{"x ~ ", "func g() { if a { y ~ "} {
		checkSyntax(t, before, "$q;", "$normal(0, 1);", "$len(a);", "$flip1(a);", "$[flip(a)];")
		checkSyntax(t, before+"flip", "$", "$;", " $a;", "($);", "($", "(a$, b);", "(a$;", "(a)$", "(a) $+ 1;", "(g$(a));", "$[a];", "(a$; b);")
		checkSyntax(t, before+"uniform", "$", "$[1, 2];", "($);", "(1$);", "(1,$);", "(1, 2$, 3);", "(1$; 2);", "($a, 2);", "(1$/2, 2);", "(1, 2$/1);", "(1, 2 $+ 1);", "(-$-1, 2);", "($(1), 2);", "(1, $true);", "(-$, 1);", "($,1);")
		checkSyntax(t, before+"table", "$", "($);", "(1$);", "(1$, 2);", "(1;$);", "(1; a,$);", "(1; a$; b);", "($a; b);", "(1$/2; b);", "($; a);", "(-$; a);", "(1; $, a);", "(1$: a);")
		checkSyntax(t, before+"binomial", "$", "($);", "(1$);", "(1,$);", "($-1, a);", "($a, b);", "(1$/2, a);", "(1$; a);", "(1, a$, b);", "($(1), a);", "(1 $+ 1, a);")
		checkSyntax(t, before+"geometric", "$", "($);", "($a);", "(1$, 2);", "(1/$);", "(1/$a);", "(1/$-2);", "(1/2$/3);", "(-$-1);", "(-$);", "($(1));", "(1$.5);", "(1 $* 2);", "(1/$/2);", "($/2);", "($true);")
		checkSyntax(t, before+"interval", "$", "($);", "(0$);", "(0,$);", "(0$; 1);", "(0, 1$, 2);", "($a, 1);", "(0, $a);", "(1/2$/3, 4);", "(0, 1/2$/3);", "(0, $+1);", "(0/$, 1);", "(0, 1/$);", "(0 $- 1, 1);")
		checkSyntax(t, before+"beta", "$", "($);", "(1$);", "(1,$);", "($-1, 2);", "(1, $-2);", "(1$/2, 2);", "(1, 2$/3);", "($a, 1);", "(1$; 2);", "(1, $(2));")
		checkSyntax(t, before+"posterior", "$", "$;", " $1;", "$(q);", " q$(1);", " $flip(1);", " q$.0;", " q$", " q$, r;", " $if;")
	}
}

// Errors that do not depend on what stands before the expression.
func TestSyntaxOfExpressions(t *testing.T) {
	for _, before := range []string{"observe ", "weight a + ", "x := b[", "y := g(a, ", "x ~ flip(b - ", "x ~ table(1; a, ", "if (b * ", "while [-", "repeat 1 { observe b ? ", "observe len(! ", "observe push(a, "} {
		checkSyntax(t, before, "$", "$;", "$*a", "$+a", "$&& a", "$<a", "$/2", "$.0", "$?a:b", "$:a", "$flip(a)", "$if", "$bool", "$~a", "$:=a", "$>", "$==", "${", "$}", "$return")
		checkSyntax(t, before+"a ", "$b", "$1", "$true", "$!b", "$(b)", "$len(b)", "$(b, c)", "$/2", "$:= b", "$~ b", "$return", "$}", "$push(a, b)")
		checkSyntax(t, before, "1 $2", "1 $a", "true $false", "(a)$(b)", "1$(b)", "[a]$(b)", "a.0$(b)", "-a $1", "len(a) $b", "a[b] $c", "a.0 $1")
		checkSyntax(t, before+"a ", "+ $;", "+ $*b", "- $+b", "* $&& b", "|| $|| b", "&& $;", "* $)", "+ $]", "- $", "* $!= b", "&& $return")
		checkSyntax(t, before, "!$;", "-$;", "!$*a", "-$+a", "!$)", "-$", "!-$", "-$< a", "!$? a : b")
		checkSyntax(t, before+"(a ", "== $== b", "== b $== c", "< b $< c", "< b $>= c", "!= b $<= c", "> b + 1 $> c", "<= b * 2 - c $!= d", ">= -b $== c", "== $)", "< b $== c && d)")
		checkSyntax(t, before+"a ", "? $;", "? b$;", "? b$", "? $: c", "? b : $;", "? b : $", "? (b $: c)", "? b$, c : d", "? b ? c : d$;", "? b$) : c", "? b : $:")
		checkSyntax(t, before+"a.", "$;", "$b", "$-1", "$(1)", "1$/2", "1 $2", "$.1", "$true", "$", "$[0]")
		checkSyntax(t, before+"a[", "$]", "b$;", "b$, c]", "b$)", "1]$1", "b $c]", "$", "b$", "b $: c]")
		checkSyntax(t, before+"1/", "$;", "$a", "$-2", "$(2)", "2$/3", "2 $3", "$/2", "$", "$true", "2$(3)")
		checkSyntax(t, before, "a$/2", "(1)$/2", "true$/2", "a.0$/2", "len(a)$/2", "[1]$/2", "a[1]$/2", "5000000/$a", "1000001/$")
		checkSyntax(t, before+"(", "$)", "$,a)", "a,$)", "a, b,$)", "a$;", "a$]", "a$}", "a$; b)", "a, b$", "(a, b)$;", "$", "$]", "a $b)", "a $: b)")
		checkSyntax(t, before+"[", "$,]", "$,a]", "a,$]", "a$;", "a$)", "$;", "a $b]", "$)", "$", "a$; b]", "a, [b$;")
		checkSyntax(t, before+"len", "$", "$;", " $a", "($)", "(a$, b)", "$[a]", "(a$;", "$.0", "($", "(a$]")
		checkSyntax(t, before+"push", "$", "$;", "($)", "(a$)", "(a,$)", "(a, b$, c)", "(a$; b)", "((a, b)$)", " $a", "(a, b$]", "($, b)")
	}
}

// Signs that end an expression only where something before it is open.
func TestEndsOfExpressions(t *testing.T) {
	checkSyntax(t, "observe a", "$)", "$]", "$,", "$:", " ${", " $}", "$")
	checkSyntax(t, "if a", "$)", "$]", "$,", "$:", "$;", "$", " $else")
	checkSyntax(t, "observe (a", "$]", "$;", "$:", " ${")
	checkSyntax(t, "observe [a", "$)", "$;", "$:", " ${")
	checkSyntax(t, "observe b[a", "$)", "$;", "$,", "$:", " ${")
	checkSyntax(t, "observe len(a", "$]", "$;", "$,", "$:", " ${")
	checkSyntax(t, "observe b ? a", "$)", "$]", "$,", "$;", " ${")
	checkSyntax(t, "observe b ? c : a", "$)", "$]", "$,", "$:", " ${")
}

// large are the numbers that are greater than 1000000, in several lengths.
func large() []string {
	return []string{"1000001", "0001000001", "2000000", "9223372036854775807", "9223372036854775808", "18446744073709551616", "18446744073709551617", strings.Repeat("9", 60)}
}

func TestLargeNumbers(t *testing.T) {
	for _, n := range large() {
		for _, s := range []string{
			"observe $N", "observe $N;", "observe a + $N x", "observe $N :=", "observe $N.0;", "observe $N[0];", "observe (a, $N", "observe -$N", "observe $N * 1/2", "x := $N;", "x := g(1, $N)", "weight $N", "if $N {", "observe a ? $N : 1",
			"observe a.$N", "observe a.$N/2;", "observe 1/2.$N", "repeat $N {", "repeat $N x", "var x: list[$N] bool;", "var x: list[$N", "var x: int[$N, 1]", "var x: int[1, $N]", "var x: int[-$N, -1]", "func g(x: int[-1, -$N",
			"x ~ uniform($N, 1)", "x ~ uniform(-$N, 1)", "x ~ uniform(1, $N)", "x ~ uniform(1, -$N)", "x ~ uniform($N/2, 1)", "x ~ table($N; a)", "x ~ table(-$N", "x ~ table(1; $N", "x ~ binomial($N, a)", "x ~ binomial(1, $N)", "x ~ beta($N, 1)", "x ~ beta(1, $N)", "x ~ flip($N)",
		} {
			checkMarked(t, strings.Replace(s, "N", n, 1), api.ErrLimit)
		}
		checkSyntax(t, "observe "+n+"/", "$", "$;", "$x", "$-1", "$(1)", "1$/2")
		checkSyntax(t, "", "$"+n, "x $"+n, "observe a $"+n, "repeat 1 $"+n, "x ~ beta(1 $"+n, "x ~ table(1; a$; "+n, "return $"+n, "var x: $"+n, "observe 1/2$/"+n)
	}
}

// The numbers of a fraction may be large.
func TestLargeFractions(t *testing.T) {
	for _, n := range large() {
		parse(t, "observe "+n+"/7 + 7/"+n+"; observe "+n+" / "+n+"; x ~ geometric("+n+"); x ~ geometric(-"+n+"/7); x ~ geometric(7/"+n+"); x ~ interval("+n+", -"+n+"/"+n+"); return r;")
	}
}

func TestZeroDenominators(t *testing.T) {
	for _, zero := range []string{"0", "00", strings.Repeat("0", 60)} {
		for _, s := range []string{
			"observe 1/$0", "observe 1/$0;", "observe 0/$0;", "observe 1/$0/2;", "observe a * 1000001/$0 x", "observe (a, [1/$0", "x := 1/$0 }", "weight -1/$0;", "x := g(1/$0", "x := a[1/$0]", "x ~ flip(1/$0)", "x ~ table(1; 1/2, 1/$0",
			"x ~ geometric(1/$0)", "x ~ geometric(-1/$0 x", "x ~ geometric(0/$0", "x ~ interval(1/$0, 2)", "x ~ interval(-1/$0", "x ~ interval(0, 1/$0)", "x ~ interval(0, -3/$0", "observe 1/2 + 3/$0 + 4/0",
		} {
			checkMarked(t, strings.Replace(s, "$0", "$"+zero, 1), api.ErrDivide)
		}
	}
}

// Every place of a bracket in a statement, inside 9 others and inside 10.
func TestNestedStatements(t *testing.T) {
	for _, v := range []struct{ before, after string }{
		{"observe ", "(a);"}, {"observe ", "(a, b);"}, {"observe ", "[];"}, {"observe ", "[a];"}, {"observe a", "[b];"}, {"observe len", "(a);"}, {"observe push", "(a, b);"}, {"observe -a.0", "[b];"},
		{"x := g", "();"}, {"x := g", "(a);"}, {"x ~ flip", "(a);"}, {"x ~ uniform", "(1, 2);"}, {"x ~ table", "(1; a);"}, {"x ~ binomial", "(1, a);"}, {"x ~ geometric", "(1/2);"}, {"x ~ interval", "(0, 1);"}, {"x ~ beta", "(1, 2);"},
		{"if a ", "{ }"}, {"if a ", "{ } else { }"}, {"repeat 1 ", "{ }"}, {"while a ", "{ }"}, {"repeat 1 ", "{ x := 1; }"},
	} {
		for n := range 10 {
			parse(t, strings.Repeat("repeat 1 { ", n)+v.before+v.after+strings.Repeat(" }", n)+" return r;")
		}
		for _, open := range []string{"repeat 1 { ", "while a { ", "if a { ", "if a { } else { "} {
			s := strings.Repeat(open, 10) + v.before
			checkError(t, s+v.after+strings.Repeat(" }", 10)+" return r;", 1, len(s)+1, api.ErrLimit)
			s = "func g(x: int[0, 1]) { " + strings.Repeat(open, 9) + v.before
			checkError(t, s+v.after+strings.Repeat(" }", 9)+" return r; } return r;", 1, len(s)+1, api.ErrLimit)
		}
	}
	parse(t, "query g { "+strings.Repeat("while a { ", 9)+strings.Repeat("} ", 9)+"return r; } return r;")
}

// Every place of a bracket in an expression, inside 9 others and inside 10.
func TestNestedExpressions(t *testing.T) {
	for _, v := range []struct{ before, after string }{
		{"(", ")"}, {"[", "]"}, {"(a, ", ")"}, {"(", ", b)"}, {"[a, b, ", "]"}, {"a[", "]"}, {"len(", ")"}, {"push(a, ", ")"}, {"push(", ", a)"}, {"-(", ")"}, {"a ? b : (", ")"}, {"a + (", ") * b"}, {"a.0[1][", "].2"},
	} {
		for _, inner := range []string{"(a)", "(a, b)", "[]", "[a]", "a[b]", "len(a)", "push(a, b)"} {
			own := strings.IndexAny(inner, "([")
			for n := range 10 {
				parse(t, "observe "+strings.Repeat(v.before, n)+inner+strings.Repeat(v.after, n)+"; return r;")
			}
			s := "observe " + strings.Repeat(v.before, 10) + inner[:own]
			checkError(t, s+inner[own:]+strings.Repeat(v.after, 10)+"; return r;", 1, len(s)+1, api.ErrLimit)
		}
	}
}

func TestNestedTypes(t *testing.T) {
	nest := func(n int, inner string) string {
		return strings.Repeat("(bool, ", n) + inner + strings.Repeat(")", n)
	}
	for _, inner := range []string{"(bool, bool)", "int[0, 1]", "list[1] bool"} {
		own := strings.IndexAny(inner, "([")
		for _, v := range []struct {
			before, after string
			open          int
		}{
			{"var x: ", "; return r;", 0},
			{"func g(x: ", ") { return r; } return r;", 1},
			{"func g() { var x: ", "; return r; } return r;", 1},
			{"query g { var x: ", "; return r; } return r;", 1},
		} {
			parse(t, v.before+nest(9-v.open, inner)+v.after)
			column := len(v.before) + 7*(10-v.open) + own + 1
			checkError(t, v.before+nest(10-v.open, inner)+v.after, 1, column, api.ErrLimit)
		}
	}
	parse(t, "var x: "+strings.Repeat("list[1] ", 20)+"bool; return r;")
}

// Brackets that are closed count no more.
func TestClosedBrackets(t *testing.T) {
	ten := strings.Repeat("([", 5) + "a" + strings.Repeat("])", 5)
	parse(t, "observe "+ten+"; observe "+ten+" + "+ten+"; repeat 1 { } if a { } else { } x := g(a); x ~ flip(a); return r;")
	parse(t, "observe ("+strings.Repeat("(a) + [b][c] + len(d) + ", 100)+strings.Repeat("(", 9)+"a"+strings.Repeat(")", 9)+"); return r;")
	checkError(t, "observe (a) + [b] + ("+ten+"); return r;", 1, 21+10, api.ErrLimit)
}

// The errors of one token in their order, and the first token of several with errors.
func TestOrderOfErrors(t *testing.T) {
	ten := strings.Repeat("(", 10)
	checkError(t, "observe "+ten+"(", 1, 19, api.ErrLimit)
	checkError(t, "observe "+ten+"{", 1, 19, api.ErrSyntax)
	checkError(t, "observe "+ten+"a(", 1, 20, api.ErrSyntax)
	checkError(t, "observe "+ten+"a[", 1, 20, api.ErrLimit)
	checkError(t, "observe "+ten+"1000001(", 1, 19, api.ErrLimit)
	checkError(t, "observe "+ten+"1000001/0(", 1, 27, api.ErrDivide)
	checkError(t, "observe "+ten+"1000001/00 1000001", 1, 27, api.ErrDivide)
	checkError(t, "observe "+ten+"len(", 1, 22, api.ErrLimit)
	checkError(t, "observe "+ten+"len[", 1, 22, api.ErrSyntax)
	checkError(t, "observe "+ten+") + 1/0 + 1000001", 1, 19, api.ErrSyntax)
	checkError(t, "observe 1/0 + 1000001 + "+ten+"((", 1, 11, api.ErrDivide)
	checkError(t, "observe 1000001 + 1/0", 1, 9, api.ErrLimit)
	checkError(t, "observe a b + 1000001", 1, 11, api.ErrSyntax)
	checkError(t, "x ~ uniform(1000001/0, 1)", 1, 13, api.ErrLimit)
	checkError(t, "x ~ uniform(1/0, 1)", 1, 14, api.ErrSyntax)
	checkError(t, "repeat 1000001 1/0", 1, 8, api.ErrLimit)
}
