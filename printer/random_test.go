package printer_test

import (
	"math/rand/v2"
	"slices"
	"strings"
	"testing"

	"exactppl/api"
	"exactppl/lexer"
	"exactppl/parser"
	"exactppl/printer"
)

// maker makes random programs that are well-formed but for the depth of their brackets.
type maker struct{ *rand.Rand }

func newMaker(seed uint64) maker { return maker{rand.New(rand.NewPCG(seed, seed+1))} }

// often reports in one of n cases true.
func (m maker) often(n int) bool { return m.IntN(n) == 0 }

func pick[T any](m maker, l ...T) T { return l[m.IntN(len(l))] }

func (m maker) name() string {
	return pick(m, "x", "y", "_", "X", "abcdefghijkl", "len1", "If", "and", "q", "Z9_")
}

// number returns a number from 0 to 1000000.
func (m maker) number() int { return pick(m, 0, 1, 2, 9, 10, 17, 999999, 1000000) }

// integer returns a number from -1000000 to 1000000.
func (m maker) integer() int { return m.number() * pick(m, 1, -1) }

// ratio returns a fraction that is not negative.
func (m maker) ratio() api.Rat {
	return pick(m, ratio(false, 1, 2), ratio(false, 0, 1), ratio(false, 1, 1), ratio(false, 7, 1), ratio(false, 1000001, 9), ratio(false, 3, 1000001),
		api.Rat{Num: []uint32{0, 1}, Den: []uint32{3}}, api.Rat{Num: []uint32{5}, Den: []uint32{0, 0, 1}})
}

func (m maker) signed() api.Rat {
	r := m.ratio()
	r.Neg = len(r.Num) > 0 && m.often(2)
	return r
}

// many returns from low to high parts.
func many[T any](m maker, low, high int, part func() T) []T {
	var l []T
	for range low + m.IntN(high-low+1) {
		l = append(l, part())
	}
	return l
}

func (m maker) typeOf(depth int) api.Type {
	inner := func() api.Type { return m.typeOf(depth - 1) }
	switch kind := m.IntN(6); {
	case kind == 0 && depth > 0:
		return api.Type{Kind: api.TypeTuple, Elems: many(m, 2, 5, inner)}
	case kind == 1 && depth > 0:
		return api.Type{Kind: api.TypeList, Max: m.number(), Elems: []api.Type{inner()}}
	case kind <= 3:
		return api.Type{Kind: api.TypeInt, Low: m.integer(), High: m.integer()}
	}
	return api.Type{Kind: pick(m, api.TypeBool, api.TypeNat, api.TypeReal)}
}

// expr returns an expression with at most so many operators inside each other.
func (m maker) expr(depth int) api.Expr {
	if depth == 0 || m.often(4) {
		return pick(m, variable(m.name()), number(m.number()), fraction(m.ratio()), yes, no, node(api.ExList))
	}
	inner := func() api.Expr { return m.expr(depth - 1) }
	switch op := api.ExNot + m.IntN(api.ExAt-api.ExNot+2); op {
	case api.ExAt + 1:
		return different(inner(), inner())
	case api.ExNot, api.ExNeg, api.ExLen:
		return node(op, inner())
	case api.ExField:
		return field(inner(), m.number())
	case api.ExCond:
		return node(op, inner(), inner(), inner())
	case api.ExTuple:
		return node(op, many(m, 2, 4, inner)...)
	case api.ExList:
		return node(op, many(m, 0, 4, inner)...)
	default:
		return node(op, inner(), inner())
	}
}

// deep returns an expression made of about so many operators, each of which stands around the one before.
func (m maker) deep(n int) api.Expr {
	e := m.expr(1)
	for range n {
		outer := m.expr(1)
		operands := outer.Args
		if isNot(outer) {
			operands = outer.Args[0].Args
		}
		if len(operands) > 0 {
			operands[m.IntN(len(operands))] = e
			e = outer
		}
	}
	return e
}

func (m maker) draw() api.Draw {
	prob := func() api.Expr { return m.expr(2) }
	switch kind := 1 + m.IntN(8); kind {
	case api.DrawUniform:
		return api.Draw{Kind: kind, Low: m.integer(), High: m.integer()}
	case api.DrawTable:
		return api.Draw{Kind: kind, Low: m.integer(), Probs: many(m, 1, 4, prob)}
	case api.DrawBinomial:
		return api.Draw{Kind: kind, High: m.number(), Probs: many(m, 1, 1, prob)}
	case api.DrawGeometric:
		return api.Draw{Kind: kind, From: m.signed()}
	case api.DrawInterval:
		return api.Draw{Kind: kind, From: m.signed(), To: m.signed()}
	case api.DrawBeta:
		return api.Draw{Kind: kind, Low: m.number(), High: m.number()}
	case api.DrawNested:
		return api.Draw{Kind: kind, Name: m.name()}
	default:
		return api.Draw{Kind: api.DrawFlip, Probs: many(m, 1, 1, prob)}
	}
}

// statements returns statements with at most so many bodies inside each other.
func (m maker) statements(depth int) []api.Stmt {
	return many(m, 0, 3, func() api.Stmt { return m.statement(depth) })
}

func (m maker) statement(depth int) api.Stmt {
	value := func() api.Expr {
		if m.often(10) {
			return m.deep(m.IntN(30))
		}
		return m.expr(1 + m.IntN(5))
	}
	kind := 1 + m.IntN(8)
	if depth == 0 && (kind == api.StIf || kind == api.StRepeat || kind == api.StWhile) {
		kind = api.StObserve
	}
	switch kind {
	case api.StDraw:
		return api.Stmt{Kind: kind, Name: m.name(), Draw: m.draw()}
	case api.StCall:
		return api.Stmt{Kind: kind, Name: m.name(), Func: m.name(), Args: many(m, 0, 3, value)}
	case api.StIf:
		return api.Stmt{Kind: kind, Expr: value(), Then: m.statements(depth - 1), Else: m.statements(depth - 1)}
	case api.StRepeat:
		return api.Stmt{Kind: kind, Int: m.number(), Then: m.statements(depth - 1)}
	case api.StWhile:
		return api.Stmt{Kind: kind, Expr: value(), Then: m.statements(depth - 1)}
	case api.StAssign:
		return api.Stmt{Kind: kind, Name: m.name(), Expr: value()}
	default:
		return api.Stmt{Kind: kind, Expr: value()}
	}
}

func (m maker) declaration() api.Decl { return api.Decl{Name: m.name(), Type: m.typeOf(3)} }

func (m maker) query() api.Func {
	return api.Func{Name: m.name(), Vars: many(m, 0, 2, m.declaration), Body: m.statements(m.IntN(4)), Result: m.name()}
}

func (m maker) function() api.Func {
	f := m.query()
	f.Args = many(m, 0, 3, m.declaration)
	return f
}

func (m maker) program() api.Program {
	return api.Program{
		Params: many(m, 0, 2, m.name), Funcs: many(m, 0, 2, m.function), Queries: many(m, 0, 2, m.query),
		Vars: many(m, 0, 3, m.declaration), Body: m.statements(m.IntN(7)), Result: m.name(),
	}
}

// P10.1 to P10.4: random programs

// checkAgainst checks Print(p) against the reference, and returns the error that is right: p is well-formed if the parser reads it in the text of the reference.
func checkAgainst(t *testing.T, r *reference, p api.Program) api.Errno {
	t.Helper()
	want := r.program(p)
	if len(want) > api.MaxText {
		t.Fatal("a program is too long for the parser")
	}
	again, _, e := parser.Parse(want)
	if e != api.OK || show(again) != show(p) {
		checkPrintError(t, p, api.ErrForm)
		return api.ErrForm
	}
	checkPrint(t, p, want)
	return api.OK
}

func TestRandomPrograms(t *testing.T) {
	m, r := newMaker(201), newReference()
	count := map[api.Errno]int{}
	for range 2500 {
		count[checkAgainst(t, r, m.program())]++
	}
	if count[api.OK] < 1500 || count[api.ErrForm] < 300 {
		t.Error("too few programs", count)
	}
}

func TestRandomExpressions(t *testing.T) {
	m, r := newMaker(203), newReference()
	count := map[api.Errno]int{}
	for range 10000 {
		e := m.expr(1 + m.IntN(6))
		if m.often(2) {
			e = m.deep(m.IntN(50))
		}
		want := r.expr(e)
		p, _, code := parser.Parse("observe " + want + ";return r;")
		if code != api.OK {
			code = api.ErrForm
			checkExprError(t, e)
		} else if show(p.Body[0].Expr) != show(e) {
			t.Fatalf("the reference writes %s as %s", show(e), want)
		} else {
			checkExpr(t, e, want)
		}
		count[code]++
	}
	if count[api.OK] < 6000 || count[api.ErrForm] < 1500 {
		t.Error("too few expressions", count)
	}
}

// Every operand of every operator in every place.
func TestAllPairs(t *testing.T) {
	r := newReference()
	var kinds []int
	for kind := -1; kind <= api.ExAt; kind++ {
		if kind != 0 {
			kinds = append(kinds, kind)
		}
	}
	for _, outer := range kinds {
		for _, inner := range kinds {
			e := sampleOf(outer)
			operands := e.Args
			if outer == -1 {
				operands = e.Args[0].Args
			}
			for i := range operands {
				operands[i] = sampleOf(inner)
				checkExpr(t, e, r.expr(e))
				operands[i] = a
			}
		}
	}
	if len(r.needed) < 400 {
		t.Error("only", len(r.needed), "pairs")
	}
}

// No pair of parentheses in a text can be taken away.
func TestParenthesesAreNeeded(t *testing.T) {
	m := newMaker(205)
	tried := 0
	for range 3000 {
		e := m.expr(4)
		s, code := printer.Expr(e)
		if code != api.OK {
			continue
		}
		for begin := range len(s) {
			end, open := begin, 0
			for ; s[begin] == '(' && end < len(s); end++ {
				open += strings.Count(s[end:end+1], "(") - strings.Count(s[end:end+1], ")")
				if open == 0 {
					break
				}
			}
			if end == begin {
				continue
			}
			less := s[:begin] + " " + s[begin+1:end] + " " + s[end+1:]
			p, _, code := parser.Parse("observe " + less + "; return r;")
			if code == api.OK && show(p.Body[0].Expr) == show(e) {
				t.Fatalf("%s means %s", less, s)
			}
			tried++
		}
	}
	if tried < 5000 {
		t.Error("only", tried, "pairs")
	}
}

// P10.4: what the parser returns for other texts is well-formed

// checkRead checks the text of a program that the parser has read.
func checkRead(t *testing.T, p api.Program) {
	t.Helper()
	s, e := printer.Print(p)
	if e == api.ErrLimit { // a longer layout of a text that was not too long
		return
	}
	if e != api.OK {
		t.Errorf("Print(%.500s) is %d", show(p), e)
		return
	}
	if again := parse(t, s); show(again) != show(p) {
		t.Errorf("Parse(%.500q) is\n%+v, not\n%+v", s, again, p)
	}
}

func TestOtherTexts(t *testing.T) {
	m, r := newMaker(207), newReference()
	r.loose = func() bool { return m.often(4) }
	read := 0
	for range 2500 {
		p, _, e := parser.Parse(r.program(m.program()))
		if e == api.OK {
			checkRead(t, p)
			read++
		}
	}
	if read < 1500 {
		t.Error("only", read, "programs")
	}
}

// Texts in which some tokens were changed, and which are still programs.
func TestChangedTexts(t *testing.T) {
	m, r := newMaker(209), newReference()
	words := strings.Fields("x y 0 1 2/4 1/1 1000000 ( ) [ ] , ; + - * ! != == < > >= <= && || ? : . true false len( push( x[ := ~ if{ } else{ return; observe weight !(a==b) (a) [a] .0 [a]")
	read := 0
	for range 15000 {
		tokens, _, _ := lexer.Tokens(r.program(bodyOf(m.statement(1), m.statement(2))))
		var l []string
		for _, token := range tokens {
			l = append(l, token.Text)
		}
		for range 1 + m.IntN(2) {
			if i := m.IntN(len(l)); m.often(2) {
				l[i] = pick(m, words...)
			} else {
				l = slices.Insert(l, i, pick(m, words...))
			}
		}
		if p, _, e := parser.Parse(strings.Join(l, " ")); e == api.OK {
			checkRead(t, p)
			read++
		}
	}
	if read < 500 {
		t.Error("only", read, "programs")
	}
}
