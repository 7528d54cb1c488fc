package printer_test

import (
	"math"
	"slices"
	"strings"
	"testing"

	"exactppl/api"
	"exactppl/printer"
	"exactppl/rational"
)

// P10.1: what is well-formed

// checkForm reports whether p is well-formed other than it must be.
func checkForm(t *testing.T, p api.Program, good bool) {
	t.Helper()
	if !good {
		checkPrintError(t, p, api.ErrForm)
		return
	}
	s, e := printer.Print(p)
	if e != api.OK {
		t.Errorf("Print(%.500s) is %d", show(p), e)
	} else if again := parse(t, s); show(again) != show(p) {
		t.Errorf("Parse(%.500q) is\n%+v, not\n%+v", s, again, p)
	}
}

// withName returns programs with the name s in each place of a name.
func withName(s string) []api.Program {
	query := api.Func{Name: "q", Result: "r"}
	x, v := []api.Decl{{Name: s, Type: truth}}, variable(s)
	l := []api.Program{
		{Params: []string{s}, Result: "r"}, {Params: []string{"p", "q", s}, Result: "r"}, {Result: s}, {Vars: x, Result: "r"},
		{Funcs: []api.Func{{Name: s, Result: "r"}}, Result: "r"}, {Queries: []api.Func{{Name: s, Result: "r"}}, Result: "r"},
		{Funcs: []api.Func{query, {Name: "f", Args: x, Result: "r"}}, Result: "r"}, {Funcs: []api.Func{{Name: "f", Vars: x, Result: "r"}}, Result: "r"}, {Funcs: []api.Func{{Name: "f", Result: s}}, Result: "r"},
		{Queries: []api.Func{query, {Name: "f", Vars: x, Result: "r"}}, Result: "r"}, {Queries: []api.Func{{Name: "f", Result: s}}, Result: "r"},
	}
	for _, st := range []api.Stmt{
		{Kind: api.StAssign, Name: s, Expr: a}, {Kind: api.StAssign, Name: "x", Expr: v}, {Kind: api.StAssign, Name: "x", Expr: node(api.ExPush, a, node(api.ExNot, v))},
		{Kind: api.StDraw, Name: s, Draw: api.Draw{Kind: api.DrawNested, Name: "q"}}, {Kind: api.StDraw, Name: "x", Draw: api.Draw{Kind: api.DrawNested, Name: s}}, {Kind: api.StDraw, Name: "x", Draw: api.Draw{Kind: api.DrawTable, Probs: []api.Expr{a, v}}},
		{Kind: api.StCall, Name: s, Func: "f"}, {Kind: api.StCall, Name: "x", Func: s}, {Kind: api.StCall, Name: "x", Func: "f", Args: []api.Expr{a, v}},
		{Kind: api.StIf, Expr: v}, {Kind: api.StWhile, Expr: v}, {Kind: api.StObserve, Expr: v}, {Kind: api.StWeight, Expr: different(a, v)},
	} {
		l = append(l, bodyOf(st), api.Program{Funcs: []api.Func{{Name: "f", Body: []api.Stmt{st}, Result: "r"}}, Result: "r"}, api.Program{Queries: []api.Func{{Name: "f", Body: []api.Stmt{st}, Result: "r"}}, Result: "r"},
			bodyOf(api.Stmt{Kind: api.StIf, Expr: a, Then: []api.Stmt{st}}), bodyOf(api.Stmt{Kind: api.StIf, Expr: a, Else: []api.Stmt{st}}), bodyOf(api.Stmt{Kind: api.StRepeat, Then: []api.Stmt{{Kind: api.StWhile, Expr: a, Then: []api.Stmt{st}}}}))
	}
	return l
}

func TestNames(t *testing.T) {
	keywords := strings.Fields("param func query var return bool int nat real list if else repeat while observe weight true false len push flip uniform table binomial geometric interval beta posterior")
	if len(keywords) != 28 {
		t.Fatal(len(keywords), "keywords")
	}
	for _, s := range []string{"x", "_", "Z", "abcdefghijkl", "A_0123456789", "and", "If", "iff", "len1", "_int", "returns", "RETURN"} {
		for _, p := range withName(s) {
			checkForm(t, p, true)
		}
	}
	for _, s := range append(keywords, "", " ", "1", "1x", "x y", "x ", " x", "x\n", "\tx", "x.0", "x-", "-x", "(x)", "x;", "x; return y", "x#", "#", "x;#", "é", "xé", "x\x00", "\xff", "abcdefghijklm", strings.Repeat("x", 100000)) {
		for _, p := range withName(s) {
			checkForm(t, p, false)
		}
	}
	for i := range 256 {
		s := "x" + string([]byte{byte(i)})
		good := i >= '0' && i <= '9' || i >= 'A' && i <= 'Z' || i >= 'a' && i <= 'z' || i == '_'
		checkForm(t, api.Program{Result: s}, good)
		checkForm(t, api.Program{Result: s[1:]}, good && i > '9')
	}
}

// checkType checks a type in all places.
func checkType(t *testing.T, u api.Type, good bool) {
	t.Helper()
	l := []api.Decl{{Name: "x", Type: u}}
	checkForm(t, api.Program{Vars: l, Result: "r"}, good)
	checkForm(t, api.Program{Vars: append([]api.Decl{{Name: "y", Type: truth}}, l...), Result: "r"}, good)
	checkForm(t, api.Program{Funcs: []api.Func{{Name: "f", Args: l, Result: "r"}}, Result: "r"}, good)
	checkForm(t, api.Program{Funcs: []api.Func{{Name: "f", Vars: l, Result: "r"}}, Result: "r"}, good)
	checkForm(t, api.Program{Queries: []api.Func{{Name: "f", Vars: l, Result: "r"}}, Result: "r"}, good)
}

// bounds are numbers around the limits.
var bounds = []int{0, 1, -1, 2, 1000, 999999, 1000000, 1000001, -1000000, -1000001, 1 << 32, math.MaxInt, math.MinInt}

// isWithin reports whether n is a number that is permitted, negative or not.
func isWithin(n int, negative bool) bool {
	return n <= 1000000 && (n >= 0 || negative && n >= -1000000)
}

func TestFormsOfTypes(t *testing.T) {
	list := func(limit int, l ...api.Type) api.Type {
		return api.Type{Kind: api.TypeList, Max: limit, Elems: l}
	}
	tuple := func(l ...api.Type) api.Type { return api.Type{Kind: api.TypeTuple, Elems: l} }
	natural := api.Type{Kind: api.TypeNat}
	for _, n := range bounds {
		checkType(t, api.Type{Kind: n}, n == api.TypeBool || n == api.TypeInt)
		checkType(t, api.Type{Kind: api.TypeInt, Low: n}, isWithin(n, true))
		checkType(t, api.Type{Kind: api.TypeInt, High: n}, isWithin(n, true))
		checkType(t, list(n, truth), isWithin(n, false))
		for _, kind := range []int{api.TypeBool, api.TypeNat, api.TypeReal} {
			checkType(t, api.Type{Kind: kind, Low: n}, n == 0)
			checkType(t, api.Type{Kind: kind, High: n}, n == 0)
			checkType(t, api.Type{Kind: kind, Max: n}, n == 0)
			checkType(t, api.Type{Kind: kind, Elems: slices.Repeat([]api.Type{truth}, n&3)}, n&3 == 0)
		}
		checkType(t, api.Type{Kind: api.TypeInt, Max: n}, n == 0)
		checkType(t, api.Type{Kind: api.TypeInt, Elems: slices.Repeat([]api.Type{truth}, n&3)}, n&3 == 0)
		for _, u := range []api.Type{tuple(truth, natural), list(1, truth)} {
			for _, change := range []func(u *api.Type){func(u *api.Type) { u.Low = n }, func(u *api.Type) { u.High = n }} {
				v := u
				change(&v)
				checkType(t, v, n == 0)
			}
		}
		checkType(t, api.Type{Kind: api.TypeTuple, Max: n, Elems: []api.Type{truth, natural}}, n == 0)
		checkType(t, tuple(truth, list(2, api.Type{Kind: api.TypeInt, Low: n})), isWithin(n, true))
	}
	for _, kind := range []int{0, 7, 8, 100} {
		checkType(t, api.Type{Kind: kind}, false)
		checkType(t, tuple(truth, api.Type{Kind: kind}), false)
		checkType(t, list(1, api.Type{Kind: kind}), false)
	}
	for n := range 9 {
		checkType(t, tuple(slices.Repeat([]api.Type{natural}, n)...), n >= 2)
		checkType(t, list(1, slices.Repeat([]api.Type{natural}, n)...), n == 1)
	}
	checkType(t, tuple(api.Type{}, truth), false)
	checkType(t, list(0, tuple(list(0, list(0, api.Type{Kind: api.TypeReal})), truth)), true)
	deep := truth
	for range 500 {
		deep = list(1, deep)
	}
	checkType(t, deep, true)
}

// checkExprForm checks an expression alone and in all places.
func checkExprForm(t *testing.T, e api.Expr, good bool) {
	t.Helper()
	want := api.ErrForm
	if good {
		want = api.OK
	}
	if s, code := printer.Expr(e); code != want || (s != "") != good {
		t.Errorf("Expr(%.500s) is %d, %.300q", show(e), code, s)
	}
	if s, code := printer.Expr(node(api.ExPush, a, node(api.ExNot, e))); code != want || (s != "") != good {
		t.Errorf("Expr of push(a, !%.500s) is %d, %.300q", show(e), code, s)
	}
	for _, st := range []api.Stmt{
		{Kind: api.StAssign, Name: "x", Expr: e}, {Kind: api.StIf, Expr: e}, {Kind: api.StWhile, Expr: e}, {Kind: api.StObserve, Expr: e}, {Kind: api.StWeight, Expr: e},
		{Kind: api.StCall, Name: "x", Func: "f", Args: []api.Expr{e}}, {Kind: api.StCall, Name: "x", Func: "f", Args: []api.Expr{a, e}},
		{Kind: api.StDraw, Name: "x", Draw: api.Draw{Kind: api.DrawFlip, Probs: []api.Expr{e}}}, {Kind: api.StDraw, Name: "x", Draw: api.Draw{Kind: api.DrawBinomial, Probs: []api.Expr{e}}}, {Kind: api.StDraw, Name: "x", Draw: api.Draw{Kind: api.DrawTable, Probs: []api.Expr{a, e}}},
	} {
		checkForm(t, bodyOf(st), good)
		checkForm(t, bodyOf(api.Stmt{Kind: api.StRepeat, Then: []api.Stmt{st}}), good)
	}
}

// Each operator with each number of operands, and with each field.
func TestFormsOfExpressions(t *testing.T) {
	least := []int{api.ExNot: 1, api.ExAnd: 2, api.ExOr: 2, api.ExEq: 2, api.ExLt: 2, api.ExLe: 2, api.ExNeg: 1, api.ExAdd: 2, api.ExSub: 2, api.ExMul: 2, api.ExCond: 3, api.ExTuple: 2, api.ExField: 1, api.ExPush: 2, api.ExLen: 1, api.ExAt: 2}
	for op, n := range least {
		if op == 0 {
			checkExprForm(t, api.Expr{}, false)
			continue
		}
		good := api.Expr{Op: op, Args: slices.Repeat([]api.Expr{a}, n)}
		if op == api.ExRat {
			good.Rat = ratio(false, 1, 1)
		}
		if op == api.ExName {
			good.Name = "x"
		}
		checkExprForm(t, good, true)
		for count := range 7 {
			e := good
			e.Args = slices.Repeat([]api.Expr{a}, count)
			checkExprForm(t, e, count == n || count > n && (op == api.ExTuple || op == api.ExList))
		}
		for _, i := range bounds {
			e := good
			e.Int = i
			checkExprForm(t, e, i == 0 || op == api.ExBool && i == 1 || (op == api.ExInt || op == api.ExField) && isWithin(i, false))
		}
		for _, r := range []api.Rat{{}, {Neg: true}, {Num: []uint32{1}}, {Num: []uint32{0}}, {Den: []uint32{1}}, {Den: []uint32{0}}, ratio(false, 1, 1), ratio(false, 3, 2)} {
			e := good
			e.Rat = r
			isNormal := len(r.Den) > 0 && r.Den[0] > 0
			checkExprForm(t, e, op == api.ExRat && isNormal || op != api.ExRat && !r.Neg && len(r.Num)+len(r.Den) == 0)
		}
		for _, name := range []string{"", "x", "while", "1"} {
			e := good
			e.Name = name
			checkExprForm(t, e, op == api.ExName && name == "x" || op != api.ExName && name == "")
		}
		for i := range n { // an operand that is not well-formed
			e := copyOf(good)
			e.Args[i] = number(-1)
			checkExprForm(t, e, false)
		}
	}
	for _, op := range []int{-1, 22, 23, 100, math.MaxInt, math.MinInt} {
		checkExprForm(t, api.Expr{Op: op}, false)
		checkExprForm(t, node(op, a, a), false)
	}
	checkExprForm(t, node(api.ExList, a, api.Expr{}), false)
}

// limbsOf returns the natural number with the text s.
func limbsOf(t *testing.T, s string) []uint32 {
	t.Helper()
	r, e := rational.Parse(s)
	if e != api.OK {
		t.Fatal(s, e)
	}
	return r.Num
}

// ratios returns fractions that are permitted and others, which are not in normal form or have too long numbers.
func ratios(t *testing.T) (good, others []api.Rat) {
	one := []uint32{1}
	power, greatest := limbsOf(t, "1"+strings.Repeat("0", 59)), limbsOf(t, strings.Repeat("9", 60))
	longer := rational.Add(api.Rat{Num: greatest, Den: one}, rational.Int(1)).Num
	good = []api.Rat{
		ratio(false, 0, 1), ratio(false, 1, 1), ratio(false, 1, 2), ratio(false, 9, 4), ratio(false, math.MaxUint32, 1), ratio(false, 1, math.MaxUint32),
		{Num: []uint32{0, 1}, Den: one}, {Num: one, Den: []uint32{0, 1}}, {Num: power, Den: one}, {Num: one, Den: power}, {Num: greatest, Den: one}, {Num: one, Den: greatest}, {Num: greatest, Den: power}, {Num: power, Den: greatest},
	}
	others = []api.Rat{
		{}, ratio(true, 0, 1), ratio(false, 0, 2), ratio(false, 2, 2), ratio(false, 2, 4), ratio(false, 6, 3), {Num: one}, {Num: one, Den: []uint32{0}}, {Den: []uint32{0}}, {Num: []uint32{0}, Den: one}, {Neg: true},
		{Num: []uint32{1, 0}, Den: one}, {Num: one, Den: []uint32{1, 0}}, {Num: []uint32{0, 0, 1, 0}, Den: one}, {Num: longer, Den: one}, {Num: one, Den: longer}, {Num: longer, Den: longer}, {Num: longer, Den: greatest}, {Num: greatest, Den: greatest},
		{Num: slices.Repeat(one, 1000000), Den: one}, {Num: one, Den: slices.Repeat(one, 1000000)}, {Num: slices.Repeat([]uint32{0}, 1000000), Den: one}, {Num: append([]uint32{1}, make([]uint32, 70)...), Den: one},
	}
	return good, others
}

func TestFormsOfFractions(t *testing.T) {
	draws := func(r api.Rat) []api.Stmt {
		return []api.Stmt{
			{Kind: api.StDraw, Name: "x", Draw: api.Draw{Kind: api.DrawGeometric, From: r}},
			{Kind: api.StDraw, Name: "x", Draw: api.Draw{Kind: api.DrawInterval, From: r, To: ratio(false, 1, 1)}},
			{Kind: api.StDraw, Name: "x", Draw: api.Draw{Kind: api.DrawInterval, From: ratio(true, 1, 2), To: r}},
		}
	}
	good, others := ratios(t)
	for _, r := range good {
		negative := r
		negative.Neg = true
		checkExprForm(t, fraction(r), true)
		checkExprForm(t, fraction(negative), false)
		for i, s := range draws(r) {
			checkForm(t, bodyOf(s), true)
			checkForm(t, bodyOf(draws(negative)[i]), len(r.Num) > 0)
		}
	}
	for _, r := range others {
		checkExprForm(t, fraction(r), false)
		for _, s := range draws(r) {
			checkForm(t, bodyOf(s), false)
		}
	}
}

// drawParts is what a kind of draws uses.
type drawParts struct {
	low, high, negative, from, to, name bool
	least, most                         int
}

func TestFormsOfDraws(t *testing.T) {
	one := ratio(false, 1, 1)
	for kind, u := range []drawParts{
		api.DrawFlip: {least: 1, most: 1}, api.DrawUniform: {low: true, high: true, negative: true}, api.DrawTable: {low: true, negative: true, least: 1, most: 99}, api.DrawBinomial: {high: true, least: 1, most: 1},
		api.DrawGeometric: {from: true}, api.DrawInterval: {from: true, to: true}, api.DrawBeta: {low: true, high: true}, api.DrawNested: {name: true},
	} {
		good := api.Draw{Kind: kind, Probs: slices.Repeat([]api.Expr{a}, u.least)}
		if u.from {
			good.From = one
		}
		if u.to {
			good.To = one
		}
		if u.name {
			good.Name = "q"
		}
		check := func(change func(d *api.Draw), want bool) {
			t.Helper()
			d := copyOf(good)
			change(&d)
			checkForm(t, bodyOf(api.Stmt{Kind: api.StDraw, Name: "x", Draw: d}), want && kind > 0)
			checkForm(t, bodyOf(api.Stmt{Kind: api.StAssign, Name: "x", Expr: a, Draw: d}), show(d) == show(api.Draw{}))
			checkForm(t, bodyOf(api.Stmt{Kind: api.StObserve, Expr: a, Draw: d}), show(d) == show(api.Draw{}))
		}
		check(func(*api.Draw) {}, true)
		for _, n := range bounds {
			check(func(d *api.Draw) { d.Low = n }, n == 0 || u.low && isWithin(n, u.negative))
			check(func(d *api.Draw) { d.High = n }, n == 0 || u.high && isWithin(n, u.negative))
		}
		for n := range 6 {
			check(func(d *api.Draw) { d.Probs = slices.Repeat([]api.Expr{a}, n) }, u.least <= n && n <= u.most)
		}
		for _, e := range []api.Expr{{}, number(-1), node(api.ExNot), variable("if")} {
			check(func(d *api.Draw) { d.Probs = []api.Expr{e} }, false)
			check(func(d *api.Draw) { d.Probs = []api.Expr{a, e} }, false)
		}
		for _, r := range []api.Rat{{}, one, ratio(false, 0, 1), ratio(true, 0, 1), {Neg: true}, {Num: []uint32{1}}, {Den: []uint32{2}}} {
			isNormal := len(r.Den) > 0 && r.Den[0] == 1 && !r.Neg
			isZero := show(r) == show(api.Rat{})
			check(func(d *api.Draw) { d.From = r }, u.from && isNormal || !u.from && isZero)
			check(func(d *api.Draw) { d.To = r }, u.to && isNormal || !u.to && isZero)
		}
		for _, s := range []string{"", "x", "while", "1"} {
			check(func(d *api.Draw) { d.Name = s }, u.name && s == "x" || !u.name && s == "")
		}
	}
	for _, kind := range []int{-1, 9, 10, 100, math.MaxInt, math.MinInt} {
		checkForm(t, bodyOf(api.Stmt{Kind: api.StDraw, Name: "x", Draw: api.Draw{Kind: kind}}), false)
		checkForm(t, bodyOf(api.Stmt{Kind: api.StDraw, Name: "x", Draw: api.Draw{Kind: kind, Probs: []api.Expr{a}}}), false)
		checkForm(t, bodyOf(api.Stmt{Kind: api.StObserve, Expr: a, Draw: api.Draw{Kind: kind}}), false)
	}
}

// statementParts is what a kind of statements uses.
type statementParts struct{ name, function, number, expr, draw, first, second bool }

func TestFormsOfStatements(t *testing.T) {
	flip := api.Draw{Kind: api.DrawFlip, Probs: []api.Expr{half}}
	inner := []api.Stmt{{Kind: api.StObserve, Expr: a}}
	for kind, u := range []statementParts{
		api.StAssign: {name: true, expr: true}, api.StDraw: {name: true, draw: true}, api.StCall: {name: true, function: true}, api.StIf: {expr: true, first: true, second: true},
		api.StRepeat: {number: true, first: true}, api.StWhile: {expr: true, first: true}, api.StObserve: {expr: true}, api.StWeight: {expr: true},
	} {
		good := api.Stmt{Kind: kind}
		if u.name {
			good.Name = "x"
		}
		if u.function {
			good.Func = "f"
		}
		if u.expr {
			good.Expr = a
		}
		if u.draw {
			good.Draw = flip
		}
		check := func(change func(s *api.Stmt), want bool) {
			t.Helper()
			s := copyOf(good)
			change(&s)
			checkInBodies(t, s, want && kind > 0)
		}
		check(func(*api.Stmt) {}, true)
		for _, s := range []string{"", "y", "return", "y y"} {
			check(func(st *api.Stmt) { st.Name = s }, u.name && s == "y" || !u.name && s == "")
			check(func(st *api.Stmt) { st.Func = s }, u.function && s == "y" || !u.function && s == "")
		}
		for _, n := range bounds {
			check(func(s *api.Stmt) { s.Int = n }, n == 0 || u.number && isWithin(n, false))
		}
		for _, e := range []api.Expr{{}, b, number(-1), {Int: 1}, {Name: "x"}, {Args: []api.Expr{a}}, {Rat: api.Rat{Neg: true}}, {Rat: ratio(false, 0, 1)}, {Rat: api.Rat{Num: []uint32{1}}}} {
			check(func(s *api.Stmt) { s.Expr = e }, u.expr && e.Op == api.ExName || !u.expr && show(e) == show(api.Expr{}))
		}
		for _, d := range []api.Draw{{}, flip, {Kind: 9}, {Low: 1}, {High: 1}, {Name: "x"}, {From: ratio(false, 0, 1)}, {To: ratio(false, 0, 1)}, {Probs: []api.Expr{a}}} {
			check(func(s *api.Stmt) { s.Draw = d }, u.draw && d.Kind == api.DrawFlip || !u.draw && show(d) == show(api.Draw{}))
		}
		for _, l := range [][]api.Expr{nil, {}, {a}, {a, half, b}, {{}}, {a, number(-1)}} {
			check(func(s *api.Stmt) { s.Args = l }, len(l) == 0 || u.function && l[0].Op != 0 && l[len(l)-1].Int == 0)
		}
		for _, l := range [][]api.Stmt{nil, {}, inner, {inner[0], inner[0]}, {{}}, {inner[0], {Kind: 9}}} {
			isGood := len(l) == 0 || show(l[len(l)-1]) == show(inner[0])
			check(func(s *api.Stmt) { s.Then = l }, len(l) == 0 || u.first && isGood)
			check(func(s *api.Stmt) { s.Else = l }, len(l) == 0 || u.second && isGood)
		}
	}
	for _, kind := range []int{-1, 9, 10, 100, math.MaxInt, math.MinInt} {
		checkInBodies(t, api.Stmt{Kind: kind}, false)
		checkInBodies(t, api.Stmt{Kind: kind, Expr: a}, false)
	}
}

// checkInBodies checks a statement in all places.
func checkInBodies(t *testing.T, s api.Stmt, good bool) {
	t.Helper()
	l := []api.Stmt{s}
	for _, body := range [][]api.Stmt{l, {{Kind: api.StIf, Expr: a, Then: l}}, {{Kind: api.StIf, Expr: a, Else: l}}, {{Kind: api.StRepeat, Then: l}}, {{Kind: api.StWhile, Expr: a, Then: l}}, {{Kind: api.StRepeat}, s}} {
		checkForm(t, bodyOf(body...), good)
	}
	checkForm(t, api.Program{Funcs: []api.Func{{Name: "f", Body: l, Result: "r"}}, Result: "r"}, good)
	checkForm(t, api.Program{Queries: []api.Func{{Name: "f", Body: l, Result: "r"}}, Result: "r"}, good)
}

func TestFormsOfPrograms(t *testing.T) {
	x := []api.Decl{{Name: "x", Type: truth}}
	f := api.Func{Name: "f", Args: x, Vars: x, Body: []api.Stmt{{Kind: api.StObserve, Expr: a}}, Result: "x"}
	q := f
	q.Args = nil
	checkForm(t, api.Program{}, false)
	checkForm(t, api.Program{Result: "r", Funcs: []api.Func{f, f, q}, Queries: []api.Func{q, q}}, true)
	checkForm(t, api.Program{Result: "r", Queries: []api.Func{f}}, false)
	checkForm(t, api.Program{Result: "r", Queries: []api.Func{q, f}}, false)
	q.Args = []api.Decl{}
	checkForm(t, api.Program{Result: "r", Queries: []api.Func{q}}, true)
	checkForm(t, api.Program{Result: "r", Funcs: []api.Func{{}}}, false)
	checkForm(t, api.Program{Result: "r", Queries: []api.Func{{}}}, false)
	checkForm(t, api.Program{Result: "r", Vars: []api.Decl{{}}}, false)
	checkForm(t, api.Program{Result: "r", Vars: []api.Decl{{Name: "x"}}}, false)
	checkForm(t, api.Program{Result: "r", Vars: []api.Decl{{Type: truth}}}, false)
	checkForm(t, api.Program{Result: "r", Params: []string{"p", ""}}, false)
	// What the checker will find wrong is well-formed.
	checkForm(t, parse(t, "param p; param p; func f() { return y; } func f() { return z; } var p: int[2, 1]; var p: list[9] real; x := f(1, 2); x := true + 1; y ~ beta(0, 999); repeat 9999 { } return w;"), true)
}
