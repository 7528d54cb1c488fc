package parser_test

import (
	"math/big"
	"regexp"
	"slices"
	"strconv"
	"strings"
	"testing"

	"exactppl/api"
	"exactppl/lexer"
	"exactppl/parser"
)

// Parse against the grammar of the chapter, which Earley's algorithm reads token by token: it knows which tokens can come next, and in which rules.

const chapter = `
program = { "param" NAME ";" } { func | query } block
func    = "func" NAME "(" [ arg { "," arg } ] ")" "{" block "}"
query   = "query" NAME "{" block "}"
block   = { "var" arg ";" } { stmt } "return" NAME ";"
arg     = NAME ":" type
type    = "bool" | "int" "[" INT "," INT "]" | "nat" | "real"
        | "(" type "," type { "," type } ")" | "list" "[" NUMBER "]" type
stmt    = NAME ":=" NAME "(" [ expr { "," expr } ] ")" ";" | NAME ":=" expr ";" | NAME "~" draw ";"
        | "if" expr body [ "else" body ] | "repeat" NUMBER body | "while" expr body
        | "observe" expr ";" | "weight" expr ";"
body    = "{" { stmt } "}"
draw    = "flip" "(" expr ")" | "uniform" "(" INT "," INT ")" | "table" "(" INT ";" expr { "," expr } ")"
        | "binomial" "(" NUMBER "," expr ")" | "geometric" "(" RAT ")" | "interval" "(" RAT "," RAT ")"
        | "beta" "(" NUMBER "," NUMBER ")" | "posterior" NAME
expr    = or [ "?" expr ":" expr ]
or      = and { "||" and }
and     = cmp { "&&" cmp }
cmp     = sum [ ( "==" | "!=" | "<" | "<=" | ">" | ">=" ) sum ]
sum     = product { ( "+" | "-" ) product }
product = unary { "*" unary }
unary   = ( "!" | "-" ) unary | postfix
postfix = primary { "." NUMBER | "[" expr "]" }
primary = "true" | "false" | NUMBER [ "/" NUMBER ] | NAME | "(" expr { "," expr } ")"
        | "[" [ expr { "," expr } ] "]" | "len" "(" expr ")" | "push" "(" expr "," expr ")"
INT     = [ "-" ] NUMBER
RAT     = [ "-" ] NUMBER [ "/" NUMBER ]
text    = program END
`

// rule is a rule without brackets. A symbol is the left side of rules, a token in quotes, NAME, NUMBER or END.
type rule struct {
	left  string
	right []string
}

type grammar struct {
	rules []rule
	of    map[string][]int // the rules of a left side
	empty map[string]bool  // whether a left side has the empty text
}

func (g *grammar) add(left string, right []string) {
	g.of[left] = append(g.of[left], len(g.rules))
	g.rules = append(g.rules, rule{left, right})
	g.empty[left] = g.empty[left] || !slices.ContainsFunc(right, func(s string) bool { return !g.empty[s] })
}

// reader reads the right sides of the grammar.
type reader struct {
	g     *grammar
	words []string
	owner string // of the new left sides
}

// is reports whether one of these words comes next, or none at all.
func (r *reader) is(words ...string) bool {
	return len(r.words) == 0 || slices.Contains(words, r.words[0])
}

// alternatives reads right sides up to the closing bracket, and adds them, with these symbols behind them, as rules of left.
func (r *reader) alternatives(left string, tail ...string) {
	for {
		var right []string
		for !r.is("|", ")", "]", "}") {
			right = append(right, r.symbol())
		}
		r.g.add(left, append(right, tail...))
		if r.is(")", "]", "}") {
			return
		}
		r.words = r.words[1:]
	}
}

// symbol reads a symbol, for which brackets become a new left side.
func (r *reader) symbol() string {
	first := r.words[0]
	r.words = r.words[1:]
	if !slices.Contains([]string{"(", "[", "{"}, first) {
		return first
	}
	left := r.owner + "." + strconv.Itoa(len(r.words))
	switch first {
	case "(":
		r.alternatives(left)
	case "[":
		r.g.add(left, nil)
		r.alternatives(left)
	case "{":
		r.g.add(left, nil)
		r.alternatives(left, left)
	}
	r.words = r.words[1:]
	return left
}

func newGrammar() *grammar {
	g := &grammar{of: map[string][]int{}, empty: map[string]bool{}}
	text := strings.ReplaceAll(chapter, "\n  ", " ")
	for _, line := range strings.Split(strings.TrimSpace(text), "\n") {
		words := regexp.MustCompile(`"[^"]*"|\S+`).FindAllString(line, -1)
		r := &reader{g, words[2:], words[0]}
		r.alternatives(words[0])
	}
	return g
}

// item is a rule of which the symbols in front of the dot have been read since the token origin.
type item struct{ rule, dot, origin int }

// next returns the symbol behind the dot, or "".
func (g *grammar) next(i item) string {
	if right := g.rules[i.rule].right; i.dot < len(right) {
		return right[i.dot]
	}
	return ""
}

// set is a list of items without repetition.
type set struct {
	items []item
	has   map[item]bool
}

func (s *set) add(i item) {
	if !s.has[i] {
		s.has[i] = true
		s.items = append(s.items, i)
	}
}

func newSet() *set { return &set{has: map[item]bool{}} }

// complete adds all items that follow from those of the last set.
func (g *grammar) complete(sets []*set) {
	last := len(sets) - 1
	for n := 0; n < len(sets[last].items); n++ {
		i := sets[last].items[n]
		symbol := g.next(i)
		if symbol == "" {
			left := g.rules[i.rule].left
			for _, j := range sets[i.origin].items {
				if g.next(j) == left {
					sets[last].add(item{j.rule, j.dot + 1, j.origin})
				}
			}
		}
		for _, r := range g.of[symbol] {
			sets[last].add(item{r, 0, last})
		}
		if g.empty[symbol] {
			sets[last].add(item{i.rule, i.dot + 1, i.origin})
		}
	}
}

// symbolOf returns the symbol of the grammar that a token is.
func symbolOf(token api.Token) string {
	switch token.Kind {
	case api.TokenName:
		return "NAME"
	case api.TokenNumber:
		return "NUMBER"
	case api.TokenEnd:
		return "END"
	}
	return `"` + token.Text + `"`
}

// sets returns the sets in front of all tokens up to the first one that cannot come next, and then the number of that token, or the number of tokens.
func (g *grammar) sets(tokens []api.Token) ([]*set, int) {
	sets := []*set{newSet()}
	sets[0].add(item{g.of["text"][0], 0, 0})
	for n, token := range tokens {
		g.complete(sets)
		following := newSet()
		for _, i := range sets[n].items {
			if g.next(i) == symbolOf(token) {
				following.add(item{i.rule, i.dot + 1, i.origin})
			}
		}
		if len(following.items) == 0 {
			return sets, n
		}
		sets = append(sets, following)
	}
	return sets, len(tokens)
}

// limitOf returns the error of a number that can come next: the items of the set in front of it tell which one it is.
func (g *grammar) limitOf(s *set, number, behind string) api.Errno {
	n, _ := new(big.Int).SetString(number, 10)
	large := n.Cmp(big.NewInt(1000000)) > 0
	for _, i := range s.items {
		if g.next(i) != "NUMBER" {
			continue
		}
		rule := g.rules[i.rule]
		owner, _, _ := strings.Cut(rule.left, ".")
		switch {
		case i.dot > 0 && rule.right[i.dot-1] == `"/"`:
			if n.Sign() == 0 {
				return api.ErrDivide
			}
		case owner == "RAT":
		case owner == "primary" && behind == "/":
		case large:
			return api.ErrLimit
		}
	}
	return api.OK
}

// errorOf returns the position and the error that Parse must return for s.
func (g *grammar) errorOf(s string) (api.Pos, api.Errno) {
	tokens, pos, e := lexer.Tokens(s)
	if e != api.OK {
		return pos, e
	}
	sets, end := g.sets(tokens)
	open := 0
	for n, token := range tokens {
		e := api.OK
		switch {
		case n == end:
			e = api.ErrSyntax
		case token.Kind == api.TokenNumber:
			e = g.limitOf(sets[n], token.Text, tokens[n+1].Text)
		case slices.Contains([]string{"(", "[", "{"}, token.Text):
			if open == 10 {
				e = api.ErrLimit
			}
			open++
		case slices.Contains([]string{")", "]", "}"}, token.Text):
			open--
		}
		if e != api.OK {
			return api.Pos{Line: token.Line, Col: token.Col}, e
		}
	}
	return api.Pos{}, api.OK
}

// readings returns in how many ways the grammar permits s.
func (g *grammar) readings(s string) int {
	tokens, _, _ := lexer.Tokens(s)
	sets, end := g.sets(tokens)
	if end < len(tokens) {
		return 0
	}
	type part struct {
		item
		end int
	}
	known := map[part]int{}
	var count func(p part) int
	count = func(p part) int {
		if p.dot == 0 {
			if p.origin == p.end {
				return 1
			}
			return 0
		}
		if n, ok := known[p]; ok {
			return n
		}
		front := item{p.rule, p.dot - 1, p.origin}
		symbol, n := g.next(front), 0
		if _, ok := g.of[symbol]; !ok { // a token
			n = count(part{front, p.end - 1})
		} else {
			for _, i := range sets[p.end].items {
				if g.next(i) == "" && g.rules[i.rule].left == symbol && sets[i.origin].has[front] {
					n += count(part{front, i.origin}) * count(part{i, p.end})
				}
			}
		}
		known[p] = n
		return n
	}
	return count(part{item{g.of["text"][0], 2, 0}, len(tokens)})
}

// check reports an error of s that differs from that of the grammar, and returns it.
func (g *grammar) check(t *testing.T, s string) api.Errno {
	t.Helper()
	p, pos, e := parser.Parse(s)
	wantPos, want := g.errorOf(s)
	if e != want || pos != wantPos {
		t.Fatalf("Parse(%q) has the error %d at %v, not %d at %v", s, e, pos, want, wantPos)
	}
	if e != api.OK && show(p) != show(api.Program{}) {
		t.Fatalf("Parse(%q) has a program beside the error: %+v", s, p)
	}
	return e
}

// vocabulary returns tokens of all kinds that differ for the parser.
func vocabulary() []string {
	var l []string
	for _, quoted := range regexp.MustCompile(`"[^"]*"`).FindAllString(chapter, -1) {
		l = append(l, strings.Trim(quoted, `"`))
	}
	slices.Sort(l)
	return append(slices.Compact(l), "x", "1", "0", "1000001")
}

// The reference itself.
func TestGrammar(t *testing.T) {
	if n := len(vocabulary()); n != 28+26+4 { // keywords and signs of the lexer, names and numbers
		t.Error("the vocabulary has", n, "tokens")
	}
	g := newGrammar()
	for _, s := range examples {
		if n := g.readings(s); n != 1 {
			t.Errorf("%q has %d readings", s, n)
		}
		if _, e := g.errorOf(s); e != api.OK {
			t.Errorf("%q has the error %d", s, e)
		}
	}
}

// All texts of a few tokens behind these ones, as long as they begin a program.
func TestShortTexts(t *testing.T) {
	g, words := newGrammar(), vocabulary()
	var visit func(s string, more int)
	visit = func(s string, more int) {
		g.check(t, s)
		if more == 0 {
			return
		}
		for _, w := range words {
			_, pos, e := parser.Parse(s + " " + w)
			if e == api.ErrSyntax && pos.Col > len(s)+1+len(w) { // at the end
				visit(s+" "+w, more-1)
			} else {
				g.check(t, s+" "+w)
			}
		}
	}
	visit("", 4)
	for _, s := range []string{"observe x", "x ~", "var x :", "x := x", "x := x (", "if x", "if x { }", "func x (", "func x ( )", "query x {", "return x", "observe ( x", "observe [ x", "x ~ table ( 1 ;", "x ~ geometric ( 1", "x ~ interval ( - 1", "x ~ uniform (", "observe x ? x", "observe x < x"} {
		visit(s, 2)
	}
}
