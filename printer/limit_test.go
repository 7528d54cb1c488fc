package printer_test

import (
	"slices"
	"strings"
	"testing"

	"exactppl/api"
	"exactppl/printer"
)

// P10.1: open brackets

// inside returns statements whose bodies stand n times around l.
func inside(n int, l []api.Stmt) []api.Stmt {
	for i := range n {
		s := api.Stmt{Kind: []int{api.StRepeat, api.StWhile, api.StIf, api.StIf}[i%4], Expr: a, Then: l}
		switch i % 4 {
		case 0:
			s.Expr = api.Expr{}
		case 3:
			s.Then, s.Else = nil, l
		}
		l = []api.Stmt{s}
	}
	return l
}

// nested returns n lists around e.
func nested(n int, e api.Expr) api.Expr {
	for range n {
		e = node(api.ExList, e)
	}
	return e
}

// depthOf returns how many brackets are open at most in the text s.
func depthOf(s string) int {
	open, most := 0, 0
	for _, r := range s {
		if strings.ContainsRune("([{", r) {
			open++
		}
		if strings.ContainsRune(")]}", r) {
			open--
		}
		most = max(most, open)
	}
	return most
}

// checkDepth checks s in as many bodies as are permitted around it, and in one more.
func checkDepth(t *testing.T, s api.Stmt) {
	t.Helper()
	l := []api.Stmt{s}
	text, e := printer.Print(bodyOf(s))
	if e != api.OK {
		t.Fatal(show(s), e)
	}
	n := api.MaxDepth - depthOf(text)
	checkForm(t, bodyOf(inside(n, l)...), true)
	checkPrintError(t, bodyOf(inside(n+1, l)...), api.ErrForm)
	if n > 0 {
		checkForm(t, api.Program{Funcs: []api.Func{{Name: "f", Body: inside(n-1, l), Result: "r"}}, Result: "r"}, true)
		checkForm(t, api.Program{Queries: []api.Func{{Name: "f", Body: inside(n-1, l), Result: "r"}}, Result: "r"}, true)
	}
	checkPrintError(t, api.Program{Funcs: []api.Func{{Name: "f", Body: inside(n, l), Result: "r"}}, Result: "r"}, api.ErrForm)
	checkPrintError(t, api.Program{Queries: []api.Func{{Name: "f", Body: inside(n, l), Result: "r"}}, Result: "r"}, api.ErrForm)
}

func TestOpenBrackets(t *testing.T) {
	for _, s := range []string{
		"x := a;", "x := (a, b);", "x := [];", "x := a[b];", "x := len(a);", "x := push(a, b);", "x := a * (b + c);", "x := -(a != b);", "x := g();", "x := g(a);", "x := g([a], b[c]);", "observe a[(b, c)];", "weight a * (b + c);",
		"x ~ flip(a);", "x ~ flip([a]);", "x ~ uniform(1, 2);", "x ~ table(1; a);", "x ~ table(1; a, [b]);", "x ~ binomial(1, a);", "x ~ binomial(1, len(a));", "x ~ geometric(1/2);", "x ~ interval(0, 1);", "x ~ beta(1, 2);", "x ~ posterior q;",
		"if a { }", "if a { x := b; } else { x := c; }", "if [a] { }", "if a { } else { x := [[b]]; }", "repeat 1 { }", "while a { }", "while [[a]] { x := b; }", "while a { x := [b]; } ",
		"x := [[[[[[[[[[]]]]]]]]]];", "x := -(a + (a + b));", "x := (a, (b, (c, [d[a]])));",
	} {
		checkDepth(t, parse(t, s+" return r;").Body[0])
	}
	for n := range 15 {
		good := n <= api.MaxDepth
		checkOpen(t, nested(n, a), n)
		e := a
		for range n {
			e = node(api.ExMul, a, node(api.ExAdd, e, b))
		}
		checkOpen(t, e, n)
		u := truth
		for range n {
			u = api.Type{Kind: api.TypeTuple, Elems: []api.Type{truth, u}}
		}
		checkForm(t, api.Program{Vars: []api.Decl{{Name: "x", Type: u}}, Result: "r"}, good)
		checkForm(t, api.Program{Funcs: []api.Func{{Name: "f", Args: []api.Decl{{Name: "x", Type: u}}, Result: "r"}}, Result: "r"}, n+1 <= api.MaxDepth)
		checkForm(t, api.Program{Queries: []api.Func{{Name: "f", Vars: []api.Decl{{Name: "x", Type: u}}, Result: "r"}}, Result: "r"}, n+1 <= api.MaxDepth)
		u = api.Type{Kind: api.TypeList, Elems: []api.Type{u}} // its bracket is closed in front of the element
		checkForm(t, api.Program{Vars: []api.Decl{{Name: "x", Type: u}}, Result: "r"}, good)
	}
}

// checkOpen checks an expression in whose text n brackets are open.
func checkOpen(t *testing.T, e api.Expr, n int) {
	t.Helper()
	s, code := printer.Expr(e)
	if (code == api.OK) != (n <= api.MaxDepth) || code == api.OK && depthOf(s) != n || code != api.OK && (code != api.ErrForm || s != "") {
		t.Errorf("Expr of %d brackets is %d, %s", n, code, s)
	}
	for _, st := range []api.Stmt{{Kind: api.StAssign, Name: "x", Expr: e}, {Kind: api.StObserve, Expr: e}, {Kind: api.StWeight, Expr: e}} {
		checkForm(t, bodyOf(st), n <= api.MaxDepth)
	}
	for _, st := range []api.Stmt{
		{Kind: api.StCall, Name: "x", Func: "f", Args: []api.Expr{a, e}}, {Kind: api.StDraw, Name: "x", Draw: api.Draw{Kind: api.DrawFlip, Probs: []api.Expr{e}}},
		{Kind: api.StDraw, Name: "x", Draw: api.Draw{Kind: api.DrawTable, Probs: []api.Expr{a, e}}}, {Kind: api.StRepeat, Then: []api.Stmt{{Kind: api.StObserve, Expr: e}}},
	} {
		checkForm(t, bodyOf(st), n+1 <= api.MaxDepth)
	}
}

// What is deep without brackets is well-formed, in a text of any length.
func TestDepthWithoutBrackets(t *testing.T) {
	const n = 1 << 15
	not, sum, condition, last, field := a, a, a, a, a
	for range n {
		not = node(api.ExNot, not)
		sum = node(api.ExAdd, sum, b)
		condition = node(api.ExCond, a, condition, b)
		last = node(api.ExCond, a, b, last)
		field = api.Expr{Op: api.ExField, Args: []api.Expr{field}}
	}
	for _, v := range []struct {
		e    api.Expr
		want string
	}{
		{not, strings.Repeat("!", n) + "a"}, {sum, "a" + strings.Repeat(" + b", n)}, {condition, strings.Repeat("a ? ", n) + "a" + strings.Repeat(" : b", n)}, {last, strings.Repeat("a ? b : ", n) + "a"}, {field, "a" + strings.Repeat(".0", n)},
	} {
		if s, e := printer.Expr(v.e); e != api.OK || s != v.want {
			t.Errorf("the error %d with %d bytes, not %d", e, len(s), len(v.want))
		}
		checkPrintError(t, bodyOf(api.Stmt{Kind: api.StObserve, Expr: v.e}), api.ErrLimit)
		checkPrintError(t, bodyOf(api.Stmt{Kind: api.StObserve, Expr: v.e}, api.Stmt{}), api.ErrForm)
	}
	u := truth
	for range n {
		u = api.Type{Kind: api.TypeList, Elems: []api.Type{u}}
	}
	checkPrintError(t, api.Program{Vars: []api.Decl{{Name: "x", Type: u}}, Result: "r"}, api.ErrLimit)
	checkPrintError(t, bodyOf(inside(n, nil)...), api.ErrForm)
	checkPrintError(t, bodyOf(inside(n, []api.Stmt{{Kind: api.StObserve, Expr: not}})...), api.ErrForm)
	checkPrintError(t, bodyOf(api.Stmt{Kind: api.StObserve, Expr: nested(n, a)}), api.ErrForm)
}

// P10.1: the length of the text

// filled returns p with statements that make its text n bytes long. They are "observe a;" and one whose expression is longer.
func filled(t *testing.T, p api.Program, n int) api.Program {
	t.Helper()
	s, e := printer.Print(p)
	if e != api.OK {
		t.Fatal(e)
	}
	const line = len("observe a;\n")
	more := n - len(s)
	plain := api.Stmt{Kind: api.StObserve, Expr: a}
	longer := plain
	for range more % line {
		longer.Expr = node(api.ExNot, longer.Expr)
	}
	p.Body = slices.Concat(p.Body, slices.Repeat([]api.Stmt{plain}, more/line-1), []api.Stmt{longer})
	return p
}

func TestLongTexts(t *testing.T) {
	for _, start := range []string{
		"return r;", "param p; param q; return r;", "var x: ((bool, bool), int[-5, 5]); return r;", "func f(x: list[2] bool) { if x { repeat 3 { x ~ flip(1/2); } } return x; } return r;",
		"query q { var y: real; while a { if b { } else { y ~ interval(-1/2, 3); } } return y; } x ~ posterior q; return r;", "x := f(a, [b], c ? (d, a) : 1/2); weight a != b; return r;",
	} {
		p := parse(t, start)
		for _, n := range []int{api.MaxText - 12, api.MaxText - 1, api.MaxText} {
			long := filled(t, p, n)
			if s, e := printer.Print(long); e != api.OK || len(s) != n {
				t.Errorf("a text of %d bytes has the error %d and %d bytes", n, e, len(s))
			} else if again := parse(t, s); show(again) != show(long) {
				t.Errorf("Parse(%.200q) is another program", s)
			}
		}
		for _, n := range []int{api.MaxText + 1, api.MaxText + 2, api.MaxText + 11, 2 * api.MaxText, 1000000} {
			long := filled(t, p, n)
			checkPrintError(t, long, api.ErrLimit)
			if s := newReference().program(long); len(s) != n {
				t.Errorf("the text has %d bytes, not %d", len(s), n)
			}
		}
	}
}

// ErrForm comes first, wherever the wrong part stands.
func TestOrderOfErrors(t *testing.T) {
	long := filled(t, bodyOf(), 2*api.MaxText)
	last := len(long.Body) - 1
	for i, spoil := range []func(p *api.Program){
		func(p *api.Program) { p.Result = "if" },
		func(p *api.Program) { p.Params = []string{"1"} },
		func(p *api.Program) { p.Vars = []api.Decl{{Name: "x"}} },
		func(p *api.Program) { p.Funcs = []api.Func{{}} },
		func(p *api.Program) {
			p.Queries = []api.Func{{Name: "q", Result: "x", Args: []api.Decl{{Name: "x", Type: truth}}}}
		},
		func(p *api.Program) { p.Body[0].Int = 1 },
		func(p *api.Program) { p.Body[last].Kind = 0 },
		func(p *api.Program) { p.Body[last].Expr = variable("abcdefghijklm") },
		func(p *api.Program) { p.Body[last].Expr = nested(11, a) },
		func(p *api.Program) { p.Body[0].Expr = nested(11, a) },
		func(p *api.Program) { p.Body[last] = inside(11, nil)[0] },
		func(p *api.Program) {
			p.Body[last] = inside(10, []api.Stmt{{Kind: api.StObserve, Expr: nested(1, a)}})[0]
		},
	} {
		p := long
		p.Body = slices.Clone(long.Body)
		spoil(&p)
		if s, e := printer.Print(p); e != api.ErrForm || s != "" {
			t.Error("change", i, "has the error", e)
		}
	}
	checkPrintError(t, long, api.ErrLimit)
}
