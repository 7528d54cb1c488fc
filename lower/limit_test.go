package lower_test

import (
	"fmt"
	"slices"
	"strings"
	"testing"
	"time"

	"exactppl/api"
	"exactppl/checker"
	"exactppl/lower"
)

// P12.1: the limits

// checkLimit checks that p, which has no error of Check, is within the limits or is not. It returns the module.
func checkLimit(t *testing.T, what string, p api.Program, within bool) api.Module {
	t.Helper()
	want := api.ErrLimit
	if within {
		want = api.OK
	}
	m, e := lower.Lower(p)
	if e != want || e != api.OK && show(m) != show(api.Module{}) {
		t.Errorf("%.300s: the error is %d, not %d", what, e, want)
	}
	if e != api.OK {
		if _, e = checker.Check(p); e != api.OK {
			t.Errorf("%.300s: Check has the error %d", what, e)
		}
	}
	return m
}

// The blocks of a program: a function, a query and the program itself have the same variables.
const (
	variables = "var b: bool; var i: int[0, 9]; var l: list[4] bool; var t: (list[4] bool, list[4] bool, list[4] bool); "
	inBlocks  = "func f(a: bool) { " + variables + "return a; } query k { " + variables + "return b; } " + variables + "return b;"
)

// programWith returns a program with these statements in its blocks.
func programWith(t *testing.T, inFunction, inQuery, inProgram []api.Stmt) api.Program {
	t.Helper()
	p := parse(t, inBlocks)
	p.Funcs[0].Body, p.Queries[0].Body, p.Body = inFunction, inQuery, inProgram
	return p
}

// statements returns the statements of a text, n times one after the other.
func statements(t *testing.T, s string, n int) []api.Stmt {
	t.Helper()
	return slices.Repeat(parse(t, s+" return b;").Body, n)
}

// inside returns the statements in n statements repeat 8, one inside the other.
func inside(n int, l []api.Stmt) []api.Stmt {
	for range n {
		l = []api.Stmt{{Kind: api.StRepeat, Int: 8, Then: l}}
	}
	return l
}

func TestCommandLimit(t *testing.T) {
	one := statements(t, "b := b;", 1)
	for s, commands := range map[string]int{
		"b := b;": 1, "b ~ flip(1/2);": 1, "t := (l, l, l);": 1, "b := f(b);": 1, "observe b;": 1, "if b { }": 1, "while b { }": 1,
		"if b { b := b; b := b; b := b; }": 4, "if b { } else { b := b; b := b; b := b; }": 4, "if b { b := b; } else { b := b; b := b; }": 4, "while b { if b { b := b; } b := b; }": 4,
		"repeat 2 { b := b; }": 2, "repeat 5 { b := b; }": 5, "repeat 2 { repeat 2 { b := b; } }": 4, "repeat 2 { if b { } else { b := b; } }": 4, "while b { repeat 3 { b := b; } }": 4, "if b { repeat 0 { b := b; } repeat 3 { b := b; } repeat 4 { } }": 4,
	} {
		l := slices.Concat(statements(t, s, api.MaxCommands/commands-1), slices.Repeat(one, commands))
		checkLimit(t, s, programWith(t, nil, nil, l), true)
		checkLimit(t, s, programWith(t, nil, nil, append(l, one...)), false)
		checkLimit(t, s, programWith(t, one, nil, l), false)
	}
	// Each weight is two commands, however often it is repeated.
	weights := statements(t, "repeat 8 { weight 1; weight 1/2; weight 1/3; weight 1/4; weight 0; }", api.MaxCommands/80)
	checkLimit(t, "weights", programWith(t, nil, nil, weights), true)
	checkLimit(t, "weights and one more command", programWith(t, nil, nil, append(weights, one...)), false)
}

// The commands of all blocks count together, also those of functions and queries that are not used.
func TestCommandsOfBlocks(t *testing.T) {
	const empty = "() { var b: bool; return b; } "
	p := parse(t, "func f"+empty+"func g"+empty+"query k { var b: bool; return b; } query l { var b: bool; return b; } var b: bool; return b;")
	one := statements(t, "b := b;", 1)
	bodies := []*[]api.Stmt{&p.Funcs[0].Body, &p.Funcs[1].Body, &p.Queries[0].Body, &p.Queries[1].Body, &p.Body}
	for _, counts := range [][5]int{{2000}, {0, 2000}, {0, 0, 2000}, {0, 0, 0, 2000}, {0, 0, 0, 0, 2000}, {400, 400, 400, 400, 400}, {1, 0, 998, 1, 1000}} {
		for i, n := range counts {
			*bodies[i] = slices.Repeat(one, n)
		}
		checkLimit(t, show(counts), p, true)
		for i, body := range bodies {
			before := *body
			*body = append(slices.Clone(before), one...)
			checkLimit(t, fmt.Sprintf("%v and one in block %d", counts, i), p, false)
			*body = before
		}
	}
}

// Repeated commands count each time, and not at all if they are repeated 0 times.
func TestRepeatedCommands(t *testing.T) {
	start := time.Now()
	one := statements(t, "b := b;", 1)
	many := statements(t, "b := b; weight 1; if b { observe b; }", 100)
	for depth := range api.MaxDepth {
		n := 1
		for range depth {
			n = min(8*n, api.MaxCommands+1)
		}
		checkLimit(t, fmt.Sprint("repeated inside ", depth), programWith(t, nil, nil, inside(depth, one)), n <= api.MaxCommands)
		if depth > api.MaxDepth-3 {
			continue // there are too many brackets for more
		}
		none := []api.Stmt{{Kind: api.StRepeat, Then: inside(depth, many)}}
		checkLimit(t, fmt.Sprint("repeated 0 times around ", depth), programWith(t, none, none, none), true)
		none = inside(depth, []api.Stmt{{Kind: api.StRepeat, Then: one}, {Kind: api.StRepeat, Int: 8}})
		m := checkLimit(t, fmt.Sprint("repeated 0 times inside ", depth), programWith(t, none, none, slices.Repeat(none, 1000)), true)
		if len(m.Body)+len(m.Procs[0].Body)+len(m.Nested[0].Body) > 0 {
			t.Errorf("%d commands are left", len(m.Body))
		}
	}
	checkLimit(t, "1536 + 464", programWith(t, inside(3, slices.Repeat(one, 3)), inside(2, slices.Repeat(one, 7)), inside(1, slices.Repeat(one, 2))), true)
	checkLimit(t, "1536 + 448 + 24", programWith(t, inside(3, slices.Repeat(one, 3)), inside(2, slices.Repeat(one, 7)), inside(1, slices.Repeat(one, 3))), false)
	if d := time.Since(start); d > time.Minute {
		t.Error("repetitions take", d)
	}
}

// Each block has cells of its own. The cells of a weight that is repeated 0 times remain.
func TestCellLimit(t *testing.T) {
	p := parse(t, inBlocks)
	m := moduleOf(t, inBlocks)
	most := []int{api.MaxCells - len(m.Procs[0].Cells), api.MaxCells - len(m.Nested[0].Cells), api.MaxCells - len(m.Cells)}
	bodies := []*[]api.Stmt{&p.Funcs[0].Body, &p.Queries[0].Body, &p.Body}
	for _, s := range []string{"repeat 0 { weight 1; }", "repeat 0 { repeat 8 { repeat 8 { repeat 8 { repeat 8 { weight 1; } } } } }", "repeat 0 { if b { weight 1; } else { } }", "repeat 0 { if b { } else { repeat 2 { weight 1; } } }", "repeat 0 { if b { if b { } else { weight 1; } } }"} {
		for i, body := range bodies {
			*body = statements(t, s, most[i])
		}
		m := checkLimit(t, s, p, true)
		for _, cells := range [][]api.Cell{m.Procs[0].Cells, m.Nested[0].Cells, m.Cells} {
			if len(cells) != api.MaxCells {
				t.Errorf("%s: there are %d cells", s, len(cells))
			}
		}
		for i, body := range bodies {
			*body = statements(t, s, most[i]+1)
			checkLimit(t, s, p, false)
			*body = statements(t, s, most[i])
		}
	}
	for i, body := range bodies {
		for _, b := range bodies {
			*b = nil
		}
		for _, s := range []string{"weight 1;", "repeat 2 { weight 1; }", "if b { weight 1; }", "if b { } else { weight 1; }"} {
			*body = statements(t, s, most[i])
			checkLimit(t, s, p, true)
			*body = statements(t, s, most[i]+1)
			checkLimit(t, s, p, false)
		}
	}
}

// places are statements in which an expression stands at the place of the name hole.
var places = []string{
	"b := hole;", "observe hole;", "if hole { }", "if hole { b := b; } else { b := b; }", "while hole { }", "b := f(hole);",
	"if b { b := hole; }", "if b { } else { observe hole; }", "repeat 1 { b := hole; }", "repeat 3 { if b { observe hole; } }", "while b { b := hole; }", "while b { while hole { } }", "repeat 2 { b := f(hole); }",
	"b := !hole;", "b := hole && b;", "b := b || hole;", "b := hole == b;", "b := hole ? b : b;", "b := b ? hole : b;", "b := b ? b : hole;", "i := hole ? 1 : 2;",
	"i := i + (hole ? 1 : 2);", "b := 2 <= (hole ? 1 : 2);", "b := (hole ? 1 : 2) < 2;", "i := -(hole ? 1 : 2);", "i := i - 2 * (hole ? 1 : 2);",
	"b := (i, hole).1;", "b := (i, hole) == (i, b);", "b := (hole, i) == (b, i);", "b := (hole, i, i) == (b, i, i);", "t := (l, [hole], l);", "l := hole ? l : [b];", "b := (hole ? (b, i) : (b, i)).0;", "b := t == (l, [b, hole], []);",
	"l := [hole];", "l := [b, b, b, hole];", "l := push(l, hole);", "l := push([hole], b);", "b := [hole][0];", "b := [b, hole][0];", "b := [b, b, b, hole][i];", "b := [b][hole ? 0 : 1];", "b := l == [hole];", "b := l == [b, b, hole];", "b := [b, b, b, hole] == l;", "b := [b, hole] == [b];", "i := len(hole ? l : [b]);",
}

// filled returns a statement with e at the place of the name hole.
func filled(t *testing.T, s string, e api.Expr) []api.Stmt {
	t.Helper()
	return fill(statements(t, s, 1), e)
}

func fill(l []api.Stmt, e api.Expr) []api.Stmt {
	return each(l, func(s api.Stmt) api.Stmt {
		s.Expr, s.Args = fillExpr(s.Expr, e), each(s.Args, func(x api.Expr) api.Expr { return fillExpr(x, e) })
		s.Then, s.Else = fill(s.Then, e), fill(s.Else, e)
		return s
	})
}

func fillExpr(x, e api.Expr) api.Expr {
	if x.Name == "hole" {
		return e
	}
	x.Args = each(x.Args, func(x api.Expr) api.Expr { return fillExpr(x, e) })
	return x
}

// inBlock returns the programs with the statements in one block: in the program, the function, and the query if it may have them.
func inBlock(t *testing.T, l []api.Stmt) []api.Program {
	t.Helper()
	programs := []api.Program{programWith(t, nil, nil, l), programWith(t, l, nil, nil)}
	if !slices.ContainsFunc(l, isForbidden) {
		programs = append(programs, programWith(t, nil, l, nil))
	}
	return programs
}

// isForbidden reports whether a statement must not stand in a query.
func isForbidden(s api.Stmt) bool {
	return s.Kind == api.StWhile || s.Kind == api.StCall || slices.ContainsFunc(slices.Concat(s.Then, s.Else), isForbidden)
}

// measured returns the greatest depth and the greatest size of a form of a module, and the sum of the sizes.
func measured(m api.Module) (depth, size, sum int) {
	for _, l := range append([][]api.Cmd{m.Body}, append(each(m.Procs, func(p api.Proc) []api.Cmd { return p.Body }), each(m.Nested, func(n api.Module) []api.Cmd { return n.Body })...)...) {
		d, s, all := measuredBody(l)
		depth, size, sum = max(depth, d), max(size, s), sum+all
	}
	return depth, size, sum
}

func measuredBody(l []api.Cmd) (depth, size, sum int) {
	for _, c := range l {
		forms := slices.Clone(c.Args)
		if c.Form.Op != 0 {
			forms = append(forms, c.Form)
		}
		for _, f := range forms {
			d, s := extent(f)
			depth, size, sum = max(depth, d), max(size, s), sum+s
		}
		d, s, all := measuredBody(slices.Concat(c.Then, c.Else))
		depth, size, sum = max(depth, d), max(size, s), sum+all
	}
	return depth, size, sum
}

// extent returns the depth and the size of a form.
func extent(f api.Form) (depth, size int) {
	size = 1
	for _, arg := range f.Args {
		d, s := extent(arg)
		depth, size = max(depth, d), size+s
	}
	return depth + 1, size
}

func name(s string) api.Expr { return api.Expr{Op: api.ExName, Name: s} }

func node(op int, args ...api.Expr) api.Expr { return api.Expr{Op: op, Args: args} }

// deep returns b with n signs ! in front of it.
func deep(n int) api.Expr {
	e := name("b")
	for range n {
		e = node(api.ExNot, e)
	}
	return e
}

// sized returns an expression whose form has the size n and a depth of less than 100.
func sized(n int) api.Expr {
	if n <= 2 {
		return deep(n - 1)
	}
	terms := (n + 1) / 2
	if n > 60 {
		terms = 30
	}
	rest := n - (terms - 1)
	e := sized(rest/terms + rest%terms)
	for range terms - 1 {
		e = node(api.ExAnd, e, sized(rest/terms))
	}
	return e
}

const maxFormDepth = 200

func TestDepthLimit(t *testing.T) {
	for _, s := range places {
		depth, _, _ := measured(checkLimit(t, s, programWith(t, nil, nil, filled(t, s, deep(150))), true))
		room := maxFormDepth - depth
		for _, p := range inBlock(t, filled(t, s, deep(150+room))) {
			if depth, _, _ = measured(checkLimit(t, s, p, true)); depth != maxFormDepth {
				t.Errorf("%s: the depth is %d", s, depth)
			}
		}
		for _, more := range []int{1, 2, 300} {
			for _, p := range inBlock(t, filled(t, s, deep(150+room+more))) {
				checkLimit(t, s, p, false)
			}
			none := []api.Stmt{{Kind: api.StRepeat, Then: filled(t, s, deep(150+room+more))}}
			for _, p := range inBlock(t, none) {
				checkLimit(t, s, p, true)
			}
		}
	}
}

func TestSizeLimit(t *testing.T) {
	for _, s := range places {
		size := func(n int) int {
			_, size, _ := measured(checkLimit(t, s, programWith(t, nil, nil, filled(t, s, sized(n))), true))
			return size
		}
		times := (size(2001) - size(1001)) / 1000 // as often the form occurs in the largest one
		most := 1001 + (api.MaxForm-size(1001))/times
		if times == 1 && size(most) != api.MaxForm {
			t.Errorf("%s: the size is %d", s, size(most))
		}
		for _, p := range inBlock(t, filled(t, s, sized(most))) {
			checkLimit(t, s, p, true)
		}
		for _, p := range inBlock(t, filled(t, s, sized(most+1))) {
			checkLimit(t, s, p, false)
		}
		none := []api.Stmt{{Kind: api.StRepeat, Then: filled(t, s, sized(most+1))}}
		for _, p := range inBlock(t, none) {
			checkLimit(t, s, p, true)
		}
	}
}

// sizes returns observations of forms that have the size n together.
func sizes(n int) []api.Stmt {
	switch {
	case n == 0:
		return nil
	case n <= api.MaxForm:
		return []api.Stmt{{Kind: api.StObserve, Expr: sized(n)}}
	}
	return append(inside(1, sizes(n/8)), sizes(n%8)...)
}

func TestSizesTogether(t *testing.T) {
	for _, s := range places {
		l := filled(t, s, sized(2000))
		_, _, sum := measured(checkLimit(t, s, programWith(t, nil, nil, l), true))
		rest := sizes(api.MaxForms - sum)
		if _, _, sum = measured(checkLimit(t, s, programWith(t, nil, rest, l), true)); sum != api.MaxForms {
			t.Errorf("%s: the sizes are %d together", s, sum)
		}
		checkLimit(t, s, programWith(t, l, rest, nil), true)
		checkLimit(t, s, programWith(t, rest, nil, l), true)
		checkLimit(t, s, programWith(t, nil, nil, slices.Concat(l, rest)), true)
		one := sizes(1)
		checkLimit(t, s, programWith(t, one, rest, l), false)
		checkLimit(t, s, programWith(t, l, rest, one), false)
		checkLimit(t, s, programWith(t, rest, one, l), false)
		checkLimit(t, s, programWith(t, nil, nil, slices.Concat(l, rest, one)), false)
	}
}

// The form of a weight counts, too, and repeated forms each time.
func TestRepeatedSizes(t *testing.T) {
	weights := func(n int) []api.Stmt { return statements(t, "weight 1;", n) }
	checkLimit(t, "weights", programWith(t, weights(100), weights(100), append(sizes(api.MaxForms-300), weights(100)...)), true)
	checkLimit(t, "one more weight", programWith(t, weights(100), weights(100), append(sizes(api.MaxForms-300), weights(101)...)), false)
	checkLimit(t, "repeated weights", programWith(t, nil, nil, append(sizes(api.MaxForms-64), inside(2, weights(1))...)), true)
	checkLimit(t, "repeated weights", programWith(t, nil, nil, append(sizes(api.MaxForms-63), inside(2, weights(1))...)), false)
	for depth := range api.MaxDepth - 2 {
		n := 1
		for range depth {
			n = min(8*n, api.MaxForms+1)
		}
		part := 3000
		within := n*part <= api.MaxForms
		checkLimit(t, fmt.Sprint("repeated inside ", depth), programWith(t, nil, nil, inside(depth, sizes(part))), within)
		none := []api.Stmt{{Kind: api.StRepeat, Then: append(inside(depth, sizes(part)), sizes(10*api.MaxForms)...)}}
		m := checkLimit(t, fmt.Sprint("repeated 0 times around ", depth), programWith(t, none, sizes(api.MaxForms), none), true)
		if _, _, sum := measured(m); sum != api.MaxForms {
			t.Error("the sizes are", sum, "together")
		}
		if within {
			checkLimit(t, fmt.Sprint("with rest ", depth), programWith(t, sizes(api.MaxForms-n*part), inside(depth, sizes(part)), nil), true)
			checkLimit(t, fmt.Sprint("with too much rest ", depth), programWith(t, sizes(api.MaxForms-n*part+1), inside(depth, sizes(part)), nil), false)
		}
	}
}

// Forms that are not in the module have no limit, and take no time.
func TestLargeForms(t *testing.T) {
	start := time.Now()
	// Each level has the length of the list three times.
	list := name("l")
	for n := range 9 {
		list = node(api.ExPush, list, name("b"))
		p := programWith(t, nil, nil, []api.Stmt{{Kind: api.StAssign, Name: "i", Expr: node(api.ExLen, list)}})
		checkLimit(t, fmt.Sprint("push ", n+1), p, n < 7)
	}
	// Each level has the tuple 15 times.
	tuple := name("t")
	for range api.MaxDepth - 4 {
		tuple = node(api.ExCond, node(api.ExEq, tuple, name("t")), name("t"), name("t"))
	}
	truth := node(api.ExEq, tuple, name("t"))
	field := func(i int, args ...api.Expr) api.Expr {
		return api.Expr{Op: api.ExField, Int: i, Args: []api.Expr{node(api.ExTuple, args...)}}
	}
	zero := api.Expr{Op: api.ExInt}
	for _, c := range []struct {
		what   string
		e      api.Expr
		within bool
	}{
		{"a large form", truth, false}, {"a large form in a field", field(1, zero, truth), false}, {"a field beside a large form", field(1, truth, name("b")), true}, {"a field beside a deep form", field(0, name("b"), deep(5000)), true},
		{"the length beside a large form", node(api.ExEq, node(api.ExLen, node(api.ExList, truth)), zero), true}, {"the length of a list with a deep form", node(api.ExEq, node(api.ExLen, node(api.ExPush, name("l"), deep(5000))), zero), true},
		{"a deep form", deep(100000), false}, {"many terms", sized(100000), false},
	} {
		for _, l := range [][]api.Stmt{{{Kind: api.StAssign, Name: "b", Expr: c.e}}, {{Kind: api.StObserve, Expr: c.e}}, {{Kind: api.StIf, Expr: c.e}}} {
			for _, p := range inBlock(t, l) {
				checkLimit(t, c.what, p, c.within)
			}
			for _, p := range inBlock(t, []api.Stmt{{Kind: api.StRepeat, Then: l}}) {
				checkLimit(t, c.what+", repeated 0 times", p, true)
			}
		}
	}
	if d := time.Since(start); d > time.Minute {
		t.Error("large forms take", d)
	}
}

// Probabilities with many terms.
func TestLargeProbabilities(t *testing.T) {
	start := time.Now()
	p := parse(t, "param p; param q; param r; var i: int[0, 15]; repeat 2 { i ~ binomial(15, (p + 1/2) * (q + 1/3) * (r + 1/5)); } return i;")
	m := checkLimit(t, "binomial", p, true)
	for _, c := range m.Body {
		for k, w := range c.Dist.Weights {
			if len(w) != 16*16*16 {
				t.Errorf("the weight %d has %d terms", k, len(w))
			}
		}
	}
	if d := time.Since(start); d > time.Minute {
		t.Error("a binomial draw takes", d)
	}
}

// A text of MaxText bytes can be too large.
func TestTexts(t *testing.T) {
	s := "var b: bool; " + strings.Repeat("b:=b;", 1600) + "return b;"
	if m := moduleOf(t, s); len(m.Body) != 1600 {
		t.Errorf("there are %d commands", len(m.Body))
	}
}
