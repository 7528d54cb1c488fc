package checker_test

import (
	"math/rand/v2"
	"reflect"
	"slices"
	"strings"
	"testing"

	"exactppl/api"
	"exactppl/checker"
)

// P11.1 to P11.6: random programs, right ones and such that were damaged, against the reference

// maker makes random programs without errors.
type maker struct {
	*rand.Rand
	params []string
	funcs  []api.Func // that are already made
	made   []api.Func // queries
	vars   []api.Decl // of the block
	place  string
}

func newMaker(seed uint64) *maker { return &maker{Rand: rand.New(rand.NewPCG(seed, seed+1))} }

// often reports in one of n cases true.
func (m *maker) often(n int) bool { return m.IntN(n) == 0 }

func pick[T any](m *maker, l ...T) T { return l[m.IntN(len(l))] }

// many returns from low to high parts.
func many[T any](m *maker, low, high int, part func() T) []T {
	var l []T
	for range low + m.IntN(high-low+1) {
		l = append(l, part())
	}
	return l
}

// wide is a type of 20 cells.
var wide = api.Type{Kind: api.TypeTuple, Elems: slices.Repeat([]api.Type{listOf(4, api.Type{Kind: api.TypeBool})}, 4)}

func integer(low, high int) api.Type { return api.Type{Kind: api.TypeInt, Low: low, High: high} }

func listOf(limit int, element api.Type) api.Type {
	return api.Type{Kind: api.TypeList, Max: limit, Elems: []api.Type{element}}
}

// simple returns bool or an integer type.
func (m *maker) simple() api.Type {
	if m.often(2) {
		return api.Type{Kind: api.TypeBool}
	}
	low := pick(m, 0, 1, -3, -1000, 985)
	return integer(low, low+pick(m, 0, 1, 9, 15))
}

// finite returns a type for variables in all blocks.
func (m *maker) finite(depth int) api.Type {
	switch kind := m.IntN(6); {
	case kind == 0 && depth > 0:
		return api.Type{Kind: api.TypeTuple, Elems: many(m, 2, 3, func() api.Type { return m.finite(depth - 1) })}
	case kind == 1:
		return listOf(1+m.IntN(3), m.simple())
	}
	return m.simple()
}

// leaf returns a variable of the block that can be used for the type, or nothing.
func (m *maker) leaf(u api.Type) []api.Expr {
	var l []api.Expr
	for _, d := range m.vars {
		if assignable(shapeOfType(d.Type), u) && (u.Kind != api.TypeReal || m.often(2)) {
			l = append(l, variable(d.Name))
		}
	}
	if len(l) == 0 {
		return nil
	}
	return []api.Expr{pick(m, l...)}
}

// expr returns an expression that is assignable to u.
func (m *maker) expr(u api.Type, depth int) api.Expr {
	if l := m.leaf(u); len(l) > 0 && (depth <= 0 || m.often(3)) {
		return l[0]
	}
	inner := func(u api.Type) api.Expr { return m.expr(u, depth-1) }
	truth, count := api.Type{Kind: api.TypeBool}, integer(0, 9)
	if depth > 0 && u.Kind != api.TypeReal && m.often(5) {
		tuple := api.Type{Kind: api.TypeTuple, Elems: []api.Type{u, truth}}
		return pick(m, node(api.ExCond, inner(truth), inner(u), inner(u)), api.Expr{Op: api.ExField, Args: []api.Expr{inner(tuple)}})
	}
	switch u.Kind {
	case api.TypeBool:
		return m.truth(depth)
	case api.TypeInt, api.TypeNat:
		if depth <= 0 || m.often(4) {
			return number(pick(m, 0, 1, 2, 3, 1000000))
		}
		return pick(m, node(pick(m, api.ExAdd, api.ExSub, api.ExMul), inner(u), inner(u)), node(api.ExNeg, inner(u)), node(api.ExLen, inner(listOf(2, count))), node(api.ExAt, m.list(count, 4, depth-1, 1), inner(count)))
	case api.TypeReal:
		return m.real(depth)
	case api.TypeTuple:
		e := node(api.ExTuple)
		for _, element := range u.Elems {
			e.Args = append(e.Args, inner(element))
		}
		return e
	}
	if depth > 0 && m.often(3) {
		return node(api.ExPush, m.list(u.Elems[0], u.Max, depth-1, 1), inner(u.Elems[0]))
	}
	return m.list(u.Elems[0], u.Max, depth-1, 0)
}

// list returns a list of so many elements.
func (m *maker) list(u api.Type, limit, depth, least int) api.Expr {
	return node(api.ExList, many(m, least, limit, func() api.Expr { return m.expr(u, depth) })...)
}

func (m *maker) truth(depth int) api.Expr {
	truth := api.Type{Kind: api.TypeBool}
	if depth <= 0 {
		return api.Expr{Op: api.ExBool, Int: m.IntN(2)}
	}
	inner := func(u api.Type) api.Expr { return m.expr(u, depth-1) }
	numeric := func() api.Expr {
		if m.often(3) {
			return m.real(depth - 1)
		}
		return inner(integer(0, 1))
	}
	switch m.IntN(4) {
	case 0:
		return node(api.ExNot, inner(truth))
	case 1:
		return node(pick(m, api.ExAnd, api.ExOr), inner(truth), inner(truth))
	case 2:
		u := m.finite(2)
		return node(api.ExEq, inner(u), inner(u))
	}
	return node(pick(m, api.ExLt, api.ExLe), numeric(), numeric())
}

func (m *maker) real(depth int) api.Expr {
	u := api.Type{Kind: api.TypeReal}
	if depth <= 0 || m.often(4) {
		return fraction(ratio(false, m.IntN(4), 3))
	}
	inner := func() api.Expr { return m.expr(u, depth-1) }
	return pick(m, node(pick(m, api.ExAdd, api.ExSub), inner(), inner()), node(api.ExNeg, inner()), node(api.ExMul, inner(), number(3)), node(api.ExMul, fraction(ratio(false, 2, 3)), inner()))
}

// prob returns a probability.
func (m *maker) prob(depth int) api.Expr {
	switch {
	case depth == 0 && len(m.params) > 0 && m.place != "query" && m.often(2):
		return variable(pick(m, m.params...))
	case depth == 0:
		return pick(m, number(0), number(1), fraction(ratio(false, 1, 2)), fraction(ratio(false, 2, 3)))
	}
	p := m.prob(depth - 1)
	return pick(m, p, node(api.ExSub, number(1), p), node(api.ExMul, p, m.prob(depth-1)), node(api.ExSub, number(1), node(api.ExMul, m.prob(depth-1), p)))
}

// draw returns a draw of a variable of the type u, or an assignment where there is none.
func (m *maker) draw(d api.Decl) api.Stmt {
	s := api.Stmt{Kind: api.StDraw, Name: d.Name}
	nested := func(kind int) bool {
		for _, q := range m.made {
			b := &block{vars: q.Vars}
			if u, _ := b.variable(q.Result); u.Kind == kind && m.often(3) {
				s.Draw = api.Draw{Kind: api.DrawNested, Name: q.Name}
				return true
			}
		}
		return false
	}
	p := m.prob(m.IntN(3))
	low := pick(m, -1000, 0, 3, 985)
	switch {
	case d.Type.Kind == api.TypeBool && !nested(api.TypeBool):
		s.Draw = api.Draw{Kind: api.DrawFlip, Probs: []api.Expr{p}}
	case d.Type.Kind == api.TypeReal:
		s.Draw = pick(m, api.Draw{Kind: api.DrawInterval, From: ratio(true, 1, 3), To: ratio(false, m.IntN(3), 2)}, api.Draw{Kind: api.DrawBeta, Low: 1 + m.IntN(6), High: 1 + m.IntN(6)})
	case d.Type.Kind == api.TypeNat && m.often(3):
		s.Draw = api.Draw{Kind: api.DrawGeometric, From: ratio(false, m.IntN(3), 3)}
	case (d.Type.Kind == api.TypeInt || d.Type.Kind == api.TypeNat) && !nested(api.TypeInt):
		s.Draw = pick(m, api.Draw{Kind: api.DrawUniform, Low: low, High: low + pick(m, 0, 3, 15)}, api.Draw{Kind: api.DrawTable, Low: low, Probs: []api.Expr{p, node(api.ExSub, number(1), p)}}, api.Draw{Kind: api.DrawBinomial, High: pick(m, 0, 3, 4), Probs: []api.Expr{p}})
	}
	if s.Draw.Kind == 0 {
		return api.Stmt{Kind: api.StAssign, Name: d.Name, Expr: m.expr(d.Type, 2)}
	}
	return s
}

// call returns a call whose result fits the variable, or a draw.
func (m *maker) call(d api.Decl) api.Stmt {
	if m.place != "query" {
		for _, f := range m.funcs {
			b := &block{vars: slices.Concat(f.Args, f.Vars)}
			if u, _ := b.variable(f.Result); show(u) == show(d.Type) {
				s := api.Stmt{Kind: api.StCall, Name: d.Name, Func: f.Name}
				for _, a := range f.Args {
					s.Args = append(s.Args, m.expr(a.Type, 2))
				}
				return s
			}
		}
	}
	return m.draw(d)
}

func (m *maker) statements(depth int) []api.Stmt {
	return many(m, 0, 3, func() api.Stmt { return m.statement(depth) })
}

func (m *maker) statement(depth int) api.Stmt {
	truth := m.expr(api.Type{Kind: api.TypeBool}, m.IntN(4))
	kind := 1 + m.IntN(8)
	if depth == 0 && (kind == api.StIf || kind == api.StRepeat || kind == api.StWhile) || kind == api.StWhile && m.place == "query" {
		kind = api.StObserve
	}
	d := pick(m, m.vars...)
	switch kind {
	case api.StAssign:
		return api.Stmt{Kind: kind, Name: d.Name, Expr: m.expr(d.Type, m.IntN(4))}
	case api.StDraw:
		return m.draw(d)
	case api.StCall:
		return m.call(d)
	case api.StIf:
		return api.Stmt{Kind: kind, Expr: truth, Then: m.statements(depth - 1), Else: m.statements(depth - 1)}
	case api.StWhile:
		return api.Stmt{Kind: kind, Expr: truth, Then: m.statements(depth - 1)}
	case api.StRepeat:
		return api.Stmt{Kind: kind, Int: m.IntN(9), Then: m.statements(depth - 1)}
	case api.StWeight:
		return api.Stmt{Kind: kind, Expr: m.prob(m.IntN(3))}
	}
	return api.Stmt{Kind: api.StObserve, Expr: truth}
}

// function returns a function or query in this place.
func (m *maker) function(place, name string, class int) api.Func {
	m.place, m.vars = place, nil
	f := api.Func{Name: name}
	names := strings.Fields("u v w x y z")
	for range 1 + m.IntN(5) {
		u := m.finite(2)
		if class != 0 && m.often(3) {
			u = api.Type{Kind: class}
		}
		if place == "query" && len(m.vars) == 0 {
			u = m.simple()
		}
		m.vars = append(m.vars, api.Decl{Name: names[len(m.vars)], Type: u})
	}
	if place == "func" {
		f.Args = m.vars[:m.IntN(min(4, len(m.vars))+1)]
	}
	f.Vars = m.vars[len(f.Args):]
	f.Result = m.vars[0].Name
	if place != "query" {
		f.Result = pick(m, m.vars...).Name
	}
	if place == "func" && m.often(3) { // it can call itself
		m.funcs = append(m.funcs, f)
		defer func() { m.funcs = m.funcs[:len(m.funcs)-1] }()
	}
	f.Body = many(m, 1, 4, func() api.Stmt { return m.statement(2) })
	return f
}

// program returns a program. Its functions come in another order than they were made.
func (m *maker) program() api.Program {
	m.params = []string{"p", "q", "r"}[:m.IntN(4)]
	m.funcs, m.made = nil, nil
	for _, name := range strings.Fields("k l")[:m.IntN(3)] {
		m.made = append(m.made, m.function("query", name, 0))
	}
	for _, name := range strings.Fields("f g h")[:m.IntN(4)] {
		m.funcs = append(m.funcs, m.function("func", name, 0))
	}
	b := m.function("program", "", pick(m, 0, api.TypeNat, api.TypeReal))
	p := api.Program{Params: m.params, Funcs: slices.Clone(m.funcs), Queries: m.made, Vars: b.Vars, Body: b.Body, Result: b.Result}
	m.Shuffle(len(p.Funcs), func(i, j int) { p.Funcs[i], p.Funcs[j] = p.Funcs[j], p.Funcs[i] })
	return copyOf(p)
}

// appendPlaces appends the parts of v that are not zero, which can be changed.
func appendPlaces(l []reflect.Value, v reflect.Value) []reflect.Value {
	if !v.IsZero() && (v.Kind() != reflect.Slice || v.Len() > 0) {
		l = append(l, v)
	}
	switch v.Kind() {
	case reflect.Struct:
		for i := range v.NumField() {
			l = appendPlaces(l, v.Field(i))
		}
	case reflect.Slice:
		for i := range v.Len() {
			l = appendPlaces(l, v.Index(i))
		}
	}
	return l
}

// change changes a part of a program, mostly into one that is well-formed.
func (m *maker) change(v reflect.Value) {
	switch part := v.Addr().Interface().(type) {
	case *int:
		*part = pick(m, *part+1, *part-1, 0, 1, 7, 8, 9, 15, 16, 17, 1000, 1001, -1000)
	case *string:
		*part = pick(m, strings.Fields("p q r f g h k l u v w x y z s")...)
	case *api.Expr:
		m.changeExpr(part)
	case *api.Type:
		*part = pick(m, m.finite(2), m.simple(), listOf(m.IntN(6), m.finite(1)), integer(3, 2), integer(0, 17), integer(0, 1001), api.Type{Kind: api.TypeNat}, api.Type{Kind: api.TypeReal}, api.Type{Kind: api.TypeTuple, Elems: []api.Type{*part, *part, *part, *part}}, wide)
	case *api.Stmt:
		*part = m.statement(1)
	case *api.Draw:
		m.changeDraw(part)
	case *api.Rat:
		*part = ratio(m.often(4), m.IntN(4), 1+m.IntN(4))
	case *[]api.Decl:
		if m.often(4) {
			*part = append(*part, api.Decl{Name: "a", Type: wide}, api.Decl{Name: "b", Type: wide}, api.Decl{Name: "c", Type: wide}, api.Decl{Name: "d", Type: m.simple()})
			return
		}
		m.changeList(v)
	default:
		m.changeList(v)
	}
}

func (m *maker) changeExpr(e *api.Expr) {
	x := m.expr(pick(m, m.simple(), m.finite(1), api.Type{Kind: api.TypeReal}), m.IntN(3))
	*e = pick(m, x, x, m.prob(1), node(api.ExNot, *e), node(api.ExTuple, *e, x), node(api.ExEq, *e, x), node(api.ExLt, x, *e), node(api.ExAdd, *e, x), node(api.ExAt, *e, x), node(api.ExPush, *e, x), node(api.ExMul, *e, *e), node(api.ExMul, *e, m.real(1)), node(api.ExLen, *e), api.Expr{Op: api.ExField, Int: m.IntN(3), Args: []api.Expr{*e}}, power(*e, 5), power(*e, 17))
}

func (m *maker) changeDraw(d *api.Draw) {
	u := pick(m, m.simple(), api.Type{Kind: api.TypeNat}, api.Type{Kind: api.TypeReal})
	half := []api.Expr{fraction(ratio(false, 1, 2)), fraction(ratio(false, 1, 2))}
	*d = pick(m, m.draw(api.Decl{Name: "x", Type: u}).Draw,
		api.Draw{Kind: api.DrawUniform, Low: pick(m, -1001, 984, 985, 1000), High: pick(m, -1000, 1000, 1001)},
		api.Draw{Kind: api.DrawTable, Low: pick(m, -1001, -1000, 999, 1000, 1001), Probs: half},
		api.Draw{Kind: api.DrawBinomial, High: 4 + m.IntN(14), Probs: []api.Expr{power(m.prob(0), 1+m.IntN(4))}},
		api.Draw{Kind: api.DrawGeometric, From: ratio(m.often(2), m.IntN(4), 2)},
		api.Draw{Kind: api.DrawBeta, Low: m.IntN(9), High: m.IntN(9)})
}

// changeList takes away an element of a list, adds one again, exchanges two, or makes the list much longer.
func (m *maker) changeList(v reflect.Value) {
	n := v.Len()
	l := reflect.AppendSlice(reflect.MakeSlice(v.Type(), 0, n), v)
	i, j := m.IntN(n), m.IntN(n)
	switch m.IntN(4) {
	case 0:
		l = reflect.AppendSlice(l.Slice(0, i), v.Slice(i+1, n))
	case 1:
		l = reflect.Append(l, v.Index(i))
	case 2:
		l.Index(i).Set(v.Index(j))
		l.Index(j).Set(v.Index(i))
	case 3:
		for range pick(m, 3, 8, 16) {
			l = reflect.Append(l, v.Index(i))
		}
	}
	v.Set(l)
}

// damage changes some places of p: first it chooses what kind of part, then the part.
func (m *maker) damage(p *api.Program) {
	for range 1 + m.IntN(3) {
		var same []reflect.Value
		for all := appendPlaces(nil, reflect.ValueOf(p).Elem()); len(same) == 0; {
			kind := reflect.TypeOf(pick[any](m, 0, "", api.Expr{}, api.Type{}, api.Stmt{}, api.Draw{}, api.Rat{}, []api.Expr{}, []api.Stmt{}, []api.Decl{}, []api.Func{}, []string{}))
			same = slices.DeleteFunc(slices.Clone(all), func(v reflect.Value) bool { return v.Type() != kind })
		}
		m.change(pick(m, same...))
		*p = copyOf(*p) // no part stands at two places
	}
}

// checkAgainst checks p against the reference and returns the sentence from which its error follows.
func checkAgainst(t *testing.T, p api.Program) string {
	t.Helper()
	want, f := checkByReference(p)
	code, rule := api.OK, "OK"
	if f != nil {
		code, rule = f.code, f.rule
	}
	if info, e := checker.Check(p); e != code || show(info) != show(want) {
		t.Fatalf("Check(%s) is %d with %+v, not %d with %+v (%s)", show(p), e, info, code, want, rule)
	}
	return rule
}

func TestRandomPrograms(t *testing.T) {
	m := newMaker(301)
	var info api.Info
	for range 3000 {
		p := m.program()
		if rule := checkAgainst(t, p); rule != "OK" {
			t.Fatalf("%s has the error %s", show(p), rule)
		}
		i, _ := checker.Check(p)
		info.Class, info.Loops, info.Conditions = max(info.Class, i.Class), info.Loops || i.Loops, max(info.Conditions, i.Conditions)
		info.Params = append(info.Params, i.Params...)
	}
	slices.Sort(info.Params)
	if info.Class != api.ClassContinuous || !info.Loops || info.Conditions < 5 || len(slices.Compact(info.Params)) != 3 {
		t.Error("the programs have little in them:", info.Class, info.Loops, info.Conditions, slices.Compact(info.Params))
	}
}

// rules are the sentences from which errors follow.
const rules = `form|parameters: limit|parameters: name|functions: limit|functions: name|queries: name|function: parameters|variable: name of the program|variable: name of the block|variable: type|variable: class in a block|variable: class in the program|variables: widths|statement: variable|assign|if|while|while: in a query|repeat|observe|weight: parameter in a query|call: in a query|call: no function|call: number of arguments|call: argument|call: result|result|result of a query: type|result of a query: outcomes
flip: type|uniform: bounds|uniform: outcomes|uniform: type|table: outcomes|table: low|table: high|table: sum|table: type|binomial: outcomes|binomial: exponent|binomial: type|geometric: range|geometric: type|interval: range|interval: type|beta: range|beta: type|posterior: no query|posterior: later query|posterior: bool|posterior: int|draw: parameter in a query
probability: operator|probability: name|probability: exponent|probability: constant
shape: name|shape: not|shape: and, or|shape: eq of reals|shape: eq|shape: lt, le|shape: neg|shape: add, sub|shape: mul|shape: mul of names|shape: cond|shape: tuple|shape: field|shape: list too long|shape: list|shape: push|shape: len|shape: at`

func TestDamagedPrograms(t *testing.T) {
	m := newMaker(303)
	count := map[string]int{}
	for range 20000 {
		p := m.program()
		m.damage(&p)
		count[checkAgainst(t, p)]++
	}
	if count["OK"] < 2000 {
		t.Error("only", count["OK"], "programs without an error")
	}
	for _, rule := range strings.FieldsFunc(rules, func(r rune) bool { return r == '|' || r == '\n' }) {
		if count[rule] < 2 {
			t.Error("only", count[rule], "errors", rule)
		}
		delete(count, rule)
	}
	if delete(count, "OK"); len(count) > 0 {
		t.Error("other errors:", count)
	}
}

// randomProbability returns an expression that is a probability or not.
func (m *maker) randomProbability(depth int) api.Expr {
	if depth == 0 {
		return pick(m, variable("p"), variable("q"), variable("r"), number(m.IntN(3)), fraction(ratio(m.often(2), m.IntN(5), 1+m.IntN(3))), variable("p"), variable("q"))
	}
	inner := func() api.Expr { return m.randomProbability(m.IntN(depth)) }
	e := inner()
	switch m.IntN(40) {
	case 0:
		return node(pick(m, api.ExNot, api.ExLt, api.ExList, api.ExAdd, api.ExMul), slices.Repeat([]api.Expr{e}, 1+2*m.IntN(2))...)
	case 1:
		return variable("z")
	case 2, 3:
		return power(e, 1+m.IntN(20))
	case 4, 5, 6:
		return node(api.ExSub, node(api.ExAdd, inner(), power(e, 9)), power(e, 9))
	case 7, 8:
		return node(api.ExNeg, e)
	case 9:
		return node(api.ExMul, number(0), e)
	}
	return node(pick(m, api.ExAdd, api.ExSub, api.ExMul), inner(), e)
}

func TestRandomProbabilities(t *testing.T) {
	m := newMaker(305)
	count := map[string]int{}
	for range 20000 {
		e := m.randomProbability(1 + m.IntN(4))
		want, f := probabilityOf(pqr, e)
		code, rule := api.OK, "OK"
		if f != nil {
			code, rule = f.code, f.rule
		}
		count[rule]++
		if p, got := checker.Probability(pqr, e); got != code || textOfPoly(p) != want.text() {
			t.Fatalf("Probability(%s) is %d with %s, not %d with %s", show(e), got, textOfPoly(p), code, want.text())
		}
	}
	for _, rule := range []string{"OK", "probability: operator", "probability: number of arguments", "probability: name", "probability: exponent", "probability: constant"} {
		if count[rule] < 50 {
			t.Error("only", count[rule], "results", rule)
		}
	}
}
