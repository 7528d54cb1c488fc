package parser_test

import (
	"math/rand/v2"
	"slices"
	"strings"
	"testing"

	"exactppl/api"
	"exactppl/parser"
)

// writer writes the tokens of random programs, and returns what the parser must make of them.
type writer struct {
	*rand.Rand
	tokens []string
	open   int
}

func (w *writer) write(tokens ...string) {
	for _, token := range tokens {
		w.tokens = append(w.tokens, token)
		switch token {
		case "(", "[", "{":
			w.open++
		case ")", "]", "}":
			w.open--
		}
	}
}

// often reports in one of n cases true.
func (w *writer) often(n int) bool { return w.IntN(n) == 0 }

// full reports whether brackets should not be opened any more.
func (w *writer) full() bool { return w.open >= 9 || len(w.tokens) > 400 }

func (w *writer) name() string {
	names := []string{"x", "y", "_", "X", "abcdefghijkl", "len1", "If", "and", "q"}
	name := names[w.IntN(len(names))]
	w.write(name)
	return name
}

func (w *writer) number() int {
	texts := []string{"0", "1", "2", "00", "017", "1000000", "999999"}
	values := []int{0, 1, 2, 0, 17, 1000000, 999999}
	i := w.IntN(len(texts))
	w.write(texts[i])
	return values[i]
}

func (w *writer) integer() int {
	if w.often(3) {
		w.write("-")
		return -w.number()
	}
	return w.number()
}

// ratio writes a fraction without a sign.
func (w *writer) ratio() api.Rat {
	texts := []string{"1/2", "2/4", "6/3", "0/7", "00/01", "1000001/1", "4294967296/8589934592", "17/05"}
	values := []api.Rat{ratio(false, 1, 2), ratio(false, 1, 2), ratio(false, 2, 1), ratio(false, 0, 1), ratio(false, 0, 1), ratio(false, 1000001, 1), ratio(false, 1, 2), ratio(false, 17, 5)}
	i := w.IntN(len(texts))
	num, den, _ := strings.Cut(texts[i], "/")
	w.write(num, "/", den)
	return values[i]
}

func (w *writer) fraction() api.Rat {
	neg := w.often(3)
	if neg {
		w.write("-")
	}
	r := ratio(false, 3, 1)
	switch w.IntN(6) {
	case 0:
		w.write("03")
	case 1:
		w.write("0")
		r = ratio(false, 0, 1)
	case 2:
		w.write("1000001")
		r = ratio(false, 1000001, 1)
	default:
		r = w.ratio()
	}
	r.Neg = neg && len(r.Num) > 0
	return r
}

// listOf writes from low to high parts with commas between them.
func listOf[T any](w *writer, low, high int, part func() T) []T {
	var l []T
	for i := range low + w.IntN(high-low+1) {
		if i > 0 {
			w.write(",")
		}
		l = append(l, part())
	}
	return l
}

func (w *writer) typeOf() api.Type {
	kind := w.IntN(6)
	if w.full() {
		kind = w.IntN(3)
	}
	switch kind {
	case 0:
		w.write("bool")
		return api.Type{Kind: api.TypeBool}
	case 1:
		w.write("nat")
		return api.Type{Kind: api.TypeNat}
	case 2:
		w.write("real")
		return api.Type{Kind: api.TypeReal}
	case 3:
		w.write("int", "[")
		low := w.integer()
		w.write(",")
		high := w.integer()
		w.write("]")
		return api.Type{Kind: api.TypeInt, Low: low, High: high}
	case 4:
		w.write("list", "[")
		limit := w.number()
		w.write("]")
		return api.Type{Kind: api.TypeList, Max: limit, Elems: []api.Type{w.typeOf()}}
	}
	w.write("(")
	l := listOf(w, 2, 4, w.typeOf)
	w.write(")")
	return api.Type{Kind: api.TypeTuple, Elems: l}
}

func (w *writer) expr() api.Expr {
	e := w.level(0)
	if w.full() || !w.often(8) {
		return e
	}
	w.write("?")
	first := w.expr()
	w.write(":")
	return node(api.ExCond, e, first, w.expr())
}

// level writes an expression of one of the levels of binary operators.
func (w *writer) level(n int) api.Expr {
	signs := [][]string{{"||"}, {"&&"}, {"==", "!=", "<", "<=", ">", ">="}, {"+", "-"}, {"*"}}
	if n == len(signs) {
		return w.unary()
	}
	e := w.level(n + 1)
	for !w.full() && w.often(8) {
		sign := signs[n][w.IntN(len(signs[n]))]
		w.write(sign)
		e = binary(sign, e, w.level(n+1))
		if n == 2 {
			break
		}
	}
	return e
}

func binary(sign string, x, y api.Expr) api.Expr {
	switch sign {
	case "!=":
		return node(api.ExNot, node(api.ExEq, x, y))
	case ">":
		return node(api.ExLt, y, x)
	case ">=":
		return node(api.ExLe, y, x)
	}
	return node(map[string]int{"||": api.ExOr, "&&": api.ExAnd, "==": api.ExEq, "<": api.ExLt, "<=": api.ExLe, "+": api.ExAdd, "-": api.ExSub, "*": api.ExMul}[sign], x, y)
}

func (w *writer) unary() api.Expr {
	switch w.IntN(12) {
	case 0:
		w.write("!")
		return node(api.ExNot, w.unary())
	case 1:
		w.write("-")
		return node(api.ExNeg, w.unary())
	}
	e := w.primary()
	for w.often(6) {
		if w.full() || w.often(2) {
			w.write(".")
			e = field(e, w.number())
			continue
		}
		w.write("[")
		e = node(api.ExAt, e, w.expr())
		w.write("]")
	}
	return e
}

func (w *writer) primary() api.Expr {
	kind := w.IntN(14)
	if w.full() {
		kind = w.IntN(9)
	}
	switch kind {
	case 0:
		w.write("true")
		return yes
	case 1:
		w.write("false")
		return no
	case 2, 3:
		return number(w.number())
	case 4:
		return fraction(w.ratio())
	case 9:
		w.write("(")
		defer w.write(")")
		l := listOf(w, 1, 3, w.expr)
		if len(l) == 1 {
			return l[0]
		}
		return node(api.ExTuple, l...)
	case 10:
		w.write("[")
		defer w.write("]")
		return node(api.ExList, listOf(w, 0, 3, w.expr)...)
	case 11:
		w.write("len", "(")
		defer w.write(")")
		return node(api.ExLen, w.expr())
	case 12:
		w.write("push", "(")
		defer w.write(")")
		return node(api.ExPush, listOf(w, 2, 2, w.expr)...)
	}
	return variable(w.name())
}

func (w *writer) draw() api.Draw {
	kind := 1 + w.IntN(8)
	word := []string{"flip", "uniform", "table", "binomial", "geometric", "interval", "beta", "posterior"}[kind-1]
	w.write(word)
	if kind == api.DrawNested {
		return api.Draw{Kind: kind, Name: w.name()}
	}
	w.write("(")
	defer w.write(")")
	d := api.Draw{Kind: kind}
	switch kind {
	case api.DrawFlip:
		d.Probs = listOf(w, 1, 1, w.expr)
	case api.DrawUniform:
		l := listOf(w, 2, 2, w.integer)
		d.Low, d.High = l[0], l[1]
	case api.DrawTable:
		d.Low = w.integer()
		w.write(";")
		d.Probs = listOf(w, 1, 4, w.expr)
	case api.DrawBinomial:
		d.High = w.number()
		w.write(",")
		d.Probs = listOf(w, 1, 1, w.expr)
	case api.DrawGeometric:
		d.From = w.fraction()
	case api.DrawInterval:
		l := listOf(w, 2, 2, w.fraction)
		d.From, d.To = l[0], l[1]
	case api.DrawBeta:
		l := listOf(w, 2, 2, w.number)
		d.Low, d.High = l[0], l[1]
	}
	return d
}

func (w *writer) statements() []api.Stmt {
	var l []api.Stmt
	for w.often(2) && len(w.tokens) < 400 {
		l = append(l, w.statement())
	}
	return l
}

func (w *writer) body() []api.Stmt {
	w.write("{")
	defer w.write("}")
	return w.statements()
}

func (w *writer) statement() api.Stmt {
	kind := 1 + w.IntN(8)
	if w.full() {
		kind = api.StWeight
	}
	s := api.Stmt{Kind: kind}
	switch kind {
	case api.StAssign:
		s.Name = w.name()
		w.write(":=")
		s.Expr = w.expr()
	case api.StDraw:
		s.Name = w.name()
		w.write("~")
		s.Draw = w.draw()
	case api.StCall:
		s.Name = w.name()
		w.write(":=")
		s.Func = w.name()
		w.write("(")
		s.Args = listOf(w, 0, 3, w.expr)
		w.write(")")
	case api.StIf:
		w.write("if")
		s.Expr = w.expr()
		s.Then = w.body()
		if w.often(2) {
			w.write("else")
			s.Else = w.body()
		}
		return s
	case api.StRepeat:
		w.write("repeat")
		s.Int = w.number()
		s.Then = w.body()
		return s
	case api.StWhile:
		w.write("while")
		s.Expr = w.expr()
		s.Then = w.body()
		return s
	default:
		w.write(map[int]string{api.StObserve: "observe", api.StWeight: "weight"}[kind])
		s.Expr = w.expr()
	}
	w.write(";")
	return s
}

func (w *writer) declaration() api.Decl {
	name := w.name()
	w.write(":")
	return api.Decl{Name: name, Type: w.typeOf()}
}

func (w *writer) block() ([]api.Decl, []api.Stmt, string) {
	var variables []api.Decl
	for w.often(2) {
		w.write("var")
		variables = append(variables, w.declaration())
		w.write(";")
	}
	statements := w.statements()
	w.write("return")
	result := w.name()
	w.write(";")
	return variables, statements, result
}

func (w *writer) program() api.Program {
	var p api.Program
	for w.often(3) {
		w.write("param")
		p.Params = append(p.Params, w.name())
		w.write(";")
	}
	for w.often(3) {
		var f api.Func
		isQuery := w.often(2)
		w.write(map[bool]string{false: "func", true: "query"}[isQuery])
		f.Name = w.name()
		if !isQuery {
			w.write("(")
			f.Args = listOf(w, 0, 3, w.declaration)
			w.write(")")
		}
		w.write("{")
		f.Vars, f.Body, f.Result = w.block()
		w.write("}")
		if isQuery {
			p.Queries = append(p.Queries, f)
		} else {
			p.Funcs = append(p.Funcs, f)
		}
	}
	p.Vars, p.Body, p.Result = w.block()
	return p
}

// join returns a text of these tokens, with blanks where they are needed and elsewhere in some cases.
func (w *writer) join() string {
	separators := []string{" ", " ", " ", "\n", "\t", " # ) x\n", "\n\n  "}
	var text strings.Builder
	for i, token := range w.tokens {
		text.WriteString(token)
		alone := strings.Contains("()[]{},;", token) || i+1 < len(w.tokens) && strings.Contains("()[]{},;", w.tokens[i+1])
		if !alone || w.often(3) {
			text.WriteString(separators[w.IntN(len(separators))])
		}
	}
	return text.String()
}

// P9.1 and P9.3: random programs

func TestRandomPrograms(t *testing.T) {
	w := &writer{Rand: rand.New(rand.NewPCG(101, 102))}
	long := 0
	for range 5000 {
		w.tokens, w.open = nil, 0
		want := w.program()
		if s := w.join(); len(s) <= api.MaxText {
			check(t, s, want)
		}
		if len(w.tokens) > 100 {
			long++
		}
	}
	if long < 300 {
		t.Error("only", long, "programs with more than 100 tokens")
	}
}

// The grammar permits each text in one way.
func TestReadings(t *testing.T) {
	g := newGrammar()
	w := &writer{Rand: rand.New(rand.NewPCG(103, 104))}
	for range 3000 {
		w.tokens, w.open = nil, 0
		w.program()
		if s := w.join(); len(w.tokens) <= 80 {
			if n := g.readings(s); n != 1 {
				t.Fatalf("%q has %d readings", s, n)
			}
		}
	}
}

// P9.2: random programs that were damaged at one place or more

// damage changes a token, or several.
func (w *writer) damage(words []string) {
	i, word := w.IntN(len(w.tokens)), words[w.IntN(len(words))]
	switch w.IntN(7) {
	case 0:
		w.tokens[i] = word
	case 1:
		w.tokens = slices.Insert(w.tokens, i, word)
	case 2:
		w.tokens = slices.Delete(w.tokens, i, i+1)
	case 3:
		w.tokens = w.tokens[:i]
	case 4:
		j := w.IntN(len(w.tokens))
		w.tokens[i], w.tokens[j] = w.tokens[j], w.tokens[i]
	default:
		numbers := []string{"0", "0", "0", "00", "1000000", "1000001", "99999999999999999999", "- 1", "x", "1 / 0", "1000001 / 2", "1 / 1000001", "( 1 )"}
		for range 20 { // most texts have a number that is found
			if j := w.IntN(len(w.tokens)); '0' <= w.tokens[j][0] && w.tokens[j][0] <= '9' {
				w.tokens[j] = numbers[w.IntN(len(numbers))]
				return
			}
		}
	}
}

func TestDamagedPrograms(t *testing.T) {
	g := newGrammar()
	w := &writer{Rand: rand.New(rand.NewPCG(105, 106))}
	words := append(vocabulary(), "$", "abcdefghijklm")
	for _, open := range []string{"(", "[", "{", "while x {", "push (", "!", "- (", "[ ["} {
		words = append(words, strings.Repeat(open+" ", 4), strings.Repeat(open+" ", 8), strings.Repeat(open+" ", 12))
	}
	count := map[api.Errno]int{}
	for range 30000 {
		w.tokens, w.open = nil, 0
		w.program()
		for range w.IntN(4) {
			if len(w.tokens) > 0 {
				w.damage(words)
			}
		}
		if len(w.tokens) <= 200 {
			count[g.check(t, w.join())]++
		}
	}
	for _, e := range []api.Errno{api.OK, api.ErrSyntax, api.ErrLimit, api.ErrDivide} {
		if count[e] < 50 {
			t.Errorf("only %d texts with the error %d", count[e], e)
		}
	}
}

// Texts of random tokens, and of random bytes.
func TestRandomTexts(t *testing.T) {
	g, words := newGrammar(), vocabulary()
	r := rand.New(rand.NewPCG(107, 108))
	for range 3000 {
		var l []string
		for range r.IntN(12) {
			l = append(l, words[r.IntN(len(words))])
		}
		g.check(t, strings.Join(l, " "))
		g.check(t, "observe x "+strings.Join(l, " "))
	}
	for range 3000 {
		s := make([]byte, r.IntN(40))
		for i := range s {
			s[i] = byte(r.IntN(128))
		}
		parser.Parse(string(s))
		g.check(t, "observe "+string(s))
	}
}
