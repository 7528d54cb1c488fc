package lexer_test

import (
	"slices"
	"strings"
	"testing"

	"exactppl/api"
	"exactppl/lexer"
)

var (
	keywords = strings.Fields("param func query var return bool int nat real list if else repeat while observe weight true false len push flip uniform table binomial geometric interval beta posterior")
	signs    = strings.Fields(":= == != <= >= && || ~ < > + - * / ( ) [ ] { } , ; : ? . !")
)

// part is a token without its position.
type part struct {
	kind int
	text string
}

func name(text string) part { return part{api.TokenName, text} }

func number(text string) part { return part{api.TokenNumber, text} }

func word(text string) part { return part{api.TokenWord, text} }

func sign(text string) part { return part{api.TokenSign, text} }

// parts returns the tokens without their positions and without the end, and reports an end that is missing.
func parts(t *testing.T, tokens []api.Token) []part {
	t.Helper()
	var l []part
	for _, token := range tokens {
		l = append(l, part{token.Kind, token.Text})
	}
	if len(l) == 0 || l[len(l)-1] != (part{api.TokenEnd, ""}) {
		t.Fatalf("%v has no end", tokens)
	}
	return l[:len(l)-1]
}

// check reports tokens of s that are not the wanted ones.
func check(t *testing.T, s string, want ...part) {
	t.Helper()
	tokens, pos, e := lexer.Tokens(s)
	if e != api.OK || pos != (api.Pos{}) {
		t.Errorf("Tokens(%q) has the error %d at %v", s, e, pos)
	} else if got := parts(t, tokens); !slices.Equal(got, want) {
		t.Errorf("Tokens(%q) is %v, not %v", s, got, want)
	}
}

// checkError reports an error of s that is not want at this place, and tokens beside it.
func checkError(t *testing.T, s string, line, col int, want api.Errno) {
	t.Helper()
	tokens, pos, e := lexer.Tokens(s)
	if e != want || pos != (api.Pos{Line: line, Col: col}) || len(tokens) != 0 {
		t.Errorf("Tokens(%.40q) is %v, %v, %d, not %d at {%d %d}", s, tokens, pos, e, want, line, col)
	}
}

// P8.1: kinds and texts

func TestTokens(t *testing.T) {
	check(t, "")
	check(t, "x1 := 3;", name("x1"), sign(":="), number("3"), sign(";"))
	check(t, "x:=y", name("x"), sign(":="), name("y"))
	check(t, "var x: bool; x ~ flip(1/3);", word("var"), name("x"), sign(":"), word("bool"), sign(";"),
		name("x"), sign("~"), word("flip"), sign("("), number("1"), sign("/"), number("3"), sign(")"), sign(";"))
	check(t, "12ab 0x1 1_ _1", number("12"), name("ab"), number("0"), name("x1"), number("1"), name("_"), name("_1"))
	check(t, "007 0", number("007"), number("0"))
	check(t, "-1.5", sign("-"), number("1"), sign("."), number("5"))
}

func TestKeywords(t *testing.T) {
	for _, w := range keywords {
		check(t, w, word(w))
		check(t, "("+w+")"+w+"+", sign("("), word(w), sign(")"), word(w), sign("+"))
		check(t, "7"+w, number("7"), word(w))
		for _, n := range []string{w + "_", w + "0", "_" + w, w + "s", strings.ToUpper(w), strings.ToUpper(w[:1]) + w[1:], w[:len(w)-1]} {
			if !slices.Contains(keywords, n) {
				check(t, n, name(n))
			}
		}
	}
	for _, n := range []string{"and", "or", "not", "end", "then", "for", "tuple", "string", "x", "_"} {
		check(t, n, name(n))
	}
}

func TestSigns(t *testing.T) {
	for _, s := range signs {
		check(t, s, sign(s))
		check(t, "a"+s+"1", name("a"), sign(s), number("1"))
		check(t, s+" "+s, sign(s), sign(s))
		check(t, s+"#", sign(s))
	}
}

// The longest sign goes first.
func TestNeighbouringSigns(t *testing.T) {
	check(t, "<=>===!=:=", sign("<="), sign(">="), sign("=="), sign("!="), sign(":="))
	check(t, "====", sign("=="), sign("=="))
	check(t, "::=", sign(":"), sign(":="))
	check(t, "<<=", sign("<"), sign("<="))
	check(t, "!!x", sign("!"), sign("!"), name("x"))
	check(t, "&&&&", sign("&&"), sign("&&"))
	check(t, "||||", sign("||"), sign("||"))
	check(t, "< ====", sign("<"), sign("=="), sign("=="))
	check(t, "--+*//", sign("-"), sign("-"), sign("+"), sign("*"), sign("/"), sign("/"))
	check(t, "~~??..", sign("~"), sign("~"), sign("?"), sign("?"), sign("."), sign("."))
	check(t, "-:>", sign("-"), sign(":"), sign(">"))
}

func TestBlanks(t *testing.T) {
	for _, s := range []string{"", " ", "\t", "\n", " \t\n\n\t ", "#", "# x", "#\n", "## $ = \" \xff\x00\r\n", "\n#\n#\n", "#a#b"} {
		check(t, s)
		check(t, s+"\nx", name("x"))
		check(t, "x"+s, name("x"))
		check(t, "x"+s+"\n1"+s+"\n:="+s, name("x"), number("1"), sign(":="))
	}
	check(t, "a b\tc\nd#e\nf", name("a"), name("b"), name("c"), name("d"), name("f"))
	check(t, "a#b c\r\xff$ d\ne", name("a"), name("e"))
	check(t, ":\t:=", sign(":"), sign(":="))
}

// Every byte alone and in other tokens.
func TestBytes(t *testing.T) {
	for i := range 256 {
		c := string([]byte{byte(i)})
		letter := 'a' <= i && i <= 'z' || 'A' <= i && i <= 'Z' || i == '_'
		digit := '0' <= i && i <= '9'
		switch {
		case letter:
			check(t, c, name(c))
			check(t, "x"+c+"x", name("x"+c+"x"))
			check(t, "1"+c, number("1"), name(c))
		case digit:
			check(t, c, number(c))
			check(t, "x"+c+"x", name("x"+c+"x"))
			check(t, "1"+c+"1", number("1"+c+"1"))
		case slices.Contains(signs, c):
			check(t, c, sign(c))
			check(t, "x"+c+"1", name("x"), sign(c), number("1"))
		case i == ' ' || i == '\t' || i == '\n':
			check(t, "x"+c+"1"+c, name("x"), number("1"))
		case c == "#":
			check(t, "x"+c+"1", name("x"))
		default:
			checkError(t, c, 1, 1, api.ErrSyntax)
			checkError(t, "x"+c, 1, 2, api.ErrSyntax)
			checkError(t, "\n:= "+c+"x", 2, 4, api.ErrSyntax)
			check(t, "x#"+c, name("x"))
		}
	}
}

// P8.1: positions

func TestPositions(t *testing.T) {
	tokens, pos, e := lexer.Tokens("x := 3; # c\n\n  y\t:=x\n#\n\t# \xc3\xa9\n12if")
	want := []api.Token{
		{Kind: api.TokenName, Text: "x", Line: 1, Col: 1},
		{Kind: api.TokenSign, Text: ":=", Line: 1, Col: 3},
		{Kind: api.TokenNumber, Text: "3", Line: 1, Col: 6},
		{Kind: api.TokenSign, Text: ";", Line: 1, Col: 7},
		{Kind: api.TokenName, Text: "y", Line: 3, Col: 3},
		{Kind: api.TokenSign, Text: ":=", Line: 3, Col: 5},
		{Kind: api.TokenName, Text: "x", Line: 3, Col: 7},
		{Kind: api.TokenNumber, Text: "12", Line: 6, Col: 1},
		{Kind: api.TokenWord, Text: "if", Line: 6, Col: 3},
		{Kind: api.TokenEnd, Line: 6, Col: 5},
	}
	if e != api.OK || pos != (api.Pos{}) || !slices.Equal(tokens, want) {
		t.Errorf("%v, %v, %d", tokens, pos, e)
	}
}

func TestEnd(t *testing.T) {
	for _, c := range []struct {
		s         string
		line, col int
	}{
		{"", 1, 1},
		{"x", 1, 2},
		{"x ", 1, 3},
		{"x\n", 2, 1},
		{"x\n\n\n", 4, 1},
		{"\n x1", 2, 4},
		{"\t", 1, 2},
		{"x # abc", 1, 8},
		{"# \xc3\xa9\xff", 1, 6}, // columns are counted in bytes
		{"# abc\n", 2, 1},
		{"# a\r", 1, 5}, // only a line feed begins a line
		{strings.Repeat("\n", api.MaxText), api.MaxText + 1, 1},
		{strings.Repeat(" ", api.MaxText), 1, api.MaxText + 1},
		{"#" + strings.Repeat("=", api.MaxText-1), 1, api.MaxText + 1},
	} {
		tokens, pos, e := lexer.Tokens(c.s)
		if e != api.OK || pos != (api.Pos{}) || len(tokens) == 0 {
			t.Errorf("Tokens(%.40q) is %v, %v, %d", c.s, tokens, pos, e)
		} else if end := tokens[len(tokens)-1]; end != (api.Token{Kind: api.TokenEnd, Line: c.line, Col: c.col}) {
			t.Errorf("the end of %.40q is %v", c.s, end)
		}
	}
}

// P8.1: errors

func TestSyntax(t *testing.T) {
	checkError(t, "$", 1, 1, api.ErrSyntax)
	checkError(t, "x\n  $", 2, 3, api.ErrSyntax)
	checkError(t, "x # $\n\n\t@ $", 3, 2, api.ErrSyntax)
	checkError(t, "=", 1, 1, api.ErrSyntax)
	checkError(t, "&", 1, 1, api.ErrSyntax)
	checkError(t, "|", 1, 1, api.ErrSyntax)
	checkError(t, "===", 1, 3, api.ErrSyntax)
	checkError(t, ":==", 1, 3, api.ErrSyntax)
	checkError(t, "<==x", 1, 3, api.ErrSyntax)
	checkError(t, "=<", 1, 1, api.ErrSyntax)
	checkError(t, "=:=", 1, 1, api.ErrSyntax)
	checkError(t, "a&&&b", 1, 4, api.ErrSyntax)
	checkError(t, "a|b||c", 1, 2, api.ErrSyntax)
	checkError(t, "a||\n|b", 2, 1, api.ErrSyntax)
	checkError(t, "&|", 1, 1, api.ErrSyntax)
	checkError(t, "& &", 1, 1, api.ErrSyntax)
	checkError(t, "=#=\n=", 1, 1, api.ErrSyntax)
	checkError(t, "x: = 3", 1, 4, api.ErrSyntax)
	checkError(t, "x\r\n", 1, 2, api.ErrSyntax)
	checkError(t, "x\v", 1, 2, api.ErrSyntax)
	checkError(t, "x\f", 1, 2, api.ErrSyntax)
	checkError(t, "x\u00a0", 1, 2, api.ErrSyntax)
	checkError(t, "\u00e9", 1, 1, api.ErrSyntax)
	checkError(t, "x\u0660", 1, 2, api.ErrSyntax) // a digit that is not decimal in ASCII
	checkError(t, "\ufeffx", 1, 1, api.ErrSyntax)
	checkError(t, "x\x00", 1, 2, api.ErrSyntax)
}

func TestLongTokens(t *testing.T) {
	longName, longNumber := strings.Repeat("x", api.MaxName), strings.Repeat("1", api.MaxDigits)
	zeros := strings.Repeat("0", api.MaxDigits)
	check(t, longName, name(longName))
	check(t, longNumber, number(longNumber))
	check(t, zeros, number(zeros))
	check(t, "_0123456789a", name("_0123456789a"))
	check(t, longNumber+longName+" "+longName, number(longNumber), name(longName), name(longName))
	checkError(t, longName+"x", 1, 1, api.ErrLimit)
	checkError(t, longName+"0", 1, 1, api.ErrLimit)
	checkError(t, longName+"_", 1, 1, api.ErrLimit)
	checkError(t, "posteriorposterior", 1, 1, api.ErrLimit)
	checkError(t, longNumber+"1", 1, 1, api.ErrLimit)
	checkError(t, zeros+"1", 1, 1, api.ErrLimit)
	checkError(t, "\n\n x1:="+longNumber+"1", 3, 6, api.ErrLimit)
	checkError(t, "1"+longName+"x", 1, 2, api.ErrLimit)
	checkError(t, strings.Repeat("x", api.MaxText), 1, 1, api.ErrLimit)
	checkError(t, " "+strings.Repeat("1", api.MaxText-1), 1, 2, api.ErrLimit)
	check(t, "#"+longName+longName+longNumber+longNumber)
}

// The first token that is wrong decides, whatever comes behind it.
func TestOrderOfErrors(t *testing.T) {
	longName, longNumber := strings.Repeat("x", api.MaxName+1), strings.Repeat("1", api.MaxDigits+1)
	checkError(t, longName+"$", 1, 1, api.ErrLimit)
	checkError(t, "$"+longName, 1, 1, api.ErrSyntax)
	checkError(t, "x "+longName+" "+longNumber+" =", 1, 3, api.ErrLimit)
	checkError(t, "x = "+longNumber, 1, 3, api.ErrSyntax)
	checkError(t, longNumber+longName, 1, 1, api.ErrLimit)
	checkError(t, "# $ "+longName+"\n&"+longName, 2, 1, api.ErrSyntax)
}

func TestLongTexts(t *testing.T) {
	for _, s := range []string{" ", "\n", "x;", "1 ", "?", "$", "=", "x\n$", "#", "x", "1"} {
		text := strings.Repeat(s, api.MaxText+1)
		checkError(t, text[:api.MaxText+1], 1, 1, api.ErrLimit)
		checkError(t, text+text, 1, 1, api.ErrLimit)
	}
	tokens, _, e := lexer.Tokens(strings.Repeat("?", api.MaxText))
	if e != api.OK || len(tokens) != api.MaxText+1 || tokens[api.MaxText] != (api.Token{Kind: api.TokenEnd, Line: 1, Col: api.MaxText + 1}) {
		t.Error("the longest text has", len(tokens), "tokens and the error", e)
	}
	checkError(t, strings.Repeat("?", api.MaxText-1)+"$", 1, api.MaxText, api.ErrSyntax)
	checkError(t, strings.Repeat("\n", api.MaxText-1)+"=", api.MaxText, 1, api.ErrSyntax)
	checkError(t, strings.Repeat("\n", api.MaxText-13)+strings.Repeat("x", 13), api.MaxText-12, 1, api.ErrLimit)
}
