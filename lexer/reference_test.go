package lexer_test

import (
	"math/rand/v2"
	"regexp"
	"slices"
	"strings"
	"testing"

	"exactppl/api"
	"exactppl/lexer"
)

// Tokens against regular expressions, for all short texts of some bytes and for random texts.

var (
	blanksOf  = regexp.MustCompile(`^([ \t\n]|#[^\n]*)*`)
	nameOf    = regexp.MustCompile(`^[a-zA-Z_][a-zA-Z_0-9]*`)
	numberOf  = regexp.MustCompile(`^[0-9]+`)
	signOf    = regexp.MustCompile(`^(:=|==|!=|<=|>=|&&|\|\||[~<>+*/()\[\]{},;:?.!-])`)
	keywordOf = regexp.MustCompile(`^(param|func|query|var|return|bool|int|nat|real|list|if|else|repeat|while|observe|weight|true|false|len|push|flip|uniform|table|binomial|geometric|interval|beta|posterior)$`)
)

// place returns the position of the i-th byte of s.
func place(s string, i int) api.Pos {
	return api.Pos{Line: 1 + strings.Count(s[:i], "\n"), Col: i - strings.LastIndexByte(s[:i], '\n')}
}

// firstOf returns the token with which s begins, without its position, and its error.
func firstOf(s string) (part, api.Errno) {
	if text := nameOf.FindString(s); text != "" {
		switch {
		case keywordOf.MatchString(text):
			return word(text), api.OK
		case len(text) > 12:
			return part{}, api.ErrLimit
		}
		return name(text), api.OK
	}
	if text := numberOf.FindString(s); text != "" {
		if len(text) > 60 {
			return part{}, api.ErrLimit
		}
		return number(text), api.OK
	}
	if text := signOf.FindString(s); text != "" {
		return sign(text), api.OK
	}
	return part{}, api.ErrSyntax
}

// tokensOf returns what Tokens must return for s, which is not too long.
func tokensOf(s string) ([]api.Token, api.Pos, api.Errno) {
	var tokens []api.Token
	for i := 0; ; {
		i += len(blanksOf.FindString(s[i:]))
		pos := place(s, i)
		if i == len(s) {
			return append(tokens, api.Token{Kind: api.TokenEnd, Line: pos.Line, Col: pos.Col}), api.Pos{}, api.OK
		}
		first, e := firstOf(s[i:])
		if e != api.OK {
			return nil, pos, e
		}
		tokens = append(tokens, api.Token{Kind: first.kind, Text: first.text, Line: pos.Line, Col: pos.Col})
		i += len(first.text)
	}
}

// checkReference reports a result of Tokens that differs from the reference, and returns the error.
func checkReference(t *testing.T, s string) api.Errno {
	t.Helper()
	tokens, pos, e := lexer.Tokens(s)
	wantTokens, wantPos, want := tokensOf(s)
	if e != want || pos != wantPos || !slices.Equal(tokens, wantTokens) {
		t.Fatalf("Tokens(%q) is %v, %v, %d, not %v, %v, %d", s, tokens, pos, e, wantTokens, wantPos, want)
	}
	return e
}

func TestShortTexts(t *testing.T) {
	var visit func(s, alphabet string, more int)
	visit = func(s, alphabet string, more int) {
		checkReference(t, s)
		if more == 0 {
			return
		}
		for i := range len(alphabet) {
			visit(s+alphabet[i:i+1], alphabet, more-1)
		}
	}
	visit("", ":=!<>&|~", 5)
	visit("", "+-*/()[]{},;:?.!=#\nz", 3)
	visit("", "if_1 \t\n#$\xff&", 4)
	for c := range 256 {
		visit(string([]byte{byte(c)}), "aZ09_= #\n&\xc3", 2)
	}
}

// random returns a text of n pieces.
func random(r *rand.Rand, n int) string {
	pieces := slices.Concat(keywords, signs, signs, []string{" ", " ", "\t", "\n", "\n", " # c\n", "#\n", "x", "Y_1", "_", "z9", "0", "12", "345"})
	var s strings.Builder
	for range n {
		switch r.IntN(60) {
		case 0:
			s.WriteByte(byte(r.IntN(256)))
		case 1:
			s.WriteString(strings.Repeat("ab"[r.IntN(2):][:1], r.IntN(14)))
		case 2:
			s.WriteString(strings.Repeat("01"[r.IntN(2):][:1], r.IntN(62)))
		default:
			s.WriteString(pieces[r.IntN(len(pieces))])
			s.WriteString([]string{" ", "", "\n"}[r.IntN(3)])
		}
	}
	return s.String()
}

func TestRandomTexts(t *testing.T) {
	r := rand.New(rand.NewPCG(91, 92))
	count := map[api.Errno]int{}
	for range 20000 {
		count[checkReference(t, random(r, r.IntN(40)))]++
	}
	for _, e := range []api.Errno{api.OK, api.ErrSyntax, api.ErrLimit} {
		if count[e] < 1000 {
			t.Errorf("only %d texts with the error %d", count[e], e)
		}
	}
}

// Texts of random bytes, of which most are no text of the language.
func TestRandomBytes(t *testing.T) {
	r := rand.New(rand.NewPCG(93, 94))
	for range 20000 {
		s := make([]byte, r.IntN(30))
		for i := range s {
			s[i] = byte(r.IntN(256))
		}
		checkReference(t, string(s))
		for i := range s {
			s[i] %= 128
		}
		checkReference(t, string(s))
	}
}

// P8.2

// offset returns the number of the byte at a position of s.
func offset(s string, line, col int) int {
	lines := strings.SplitAfter(s, "\n")
	return len(strings.Join(lines[:line-1], "")) + col - 1
}

// isBlank reports whether s contains only blanks, the last of which may be a comment that ends with s.
func isBlank(s string) bool {
	for _, line := range strings.Split(s, "\n") {
		before, _, _ := strings.Cut(line, "#")
		if strings.Trim(before, " \t") != "" {
			return false
		}
	}
	return true
}

func TestTextsAtPositions(t *testing.T) {
	r := rand.New(rand.NewPCG(95, 96))
	count := 0
	for range 5000 {
		s := random(r, r.IntN(60))
		tokens, _, e := lexer.Tokens(s)
		if e != api.OK {
			continue
		}
		count++
		end := 0
		for _, token := range tokens {
			begin := offset(s, token.Line, token.Col)
			if begin < end || !strings.HasPrefix(s[begin:], token.Text) || !isBlank(s[end:begin]) || token.Text == "" != (token.Kind == api.TokenEnd) {
				t.Fatalf("%q has the token %v", s, token)
			}
			end = begin + len(token.Text)
		}
		if end != len(s) {
			t.Fatalf("the tokens of %q end at %d", s, end)
		}
	}
	if count < 1000 {
		t.Error("only", count, "texts")
	}
}

func TestTokensWithOtherBlanks(t *testing.T) {
	r := rand.New(rand.NewPCG(97, 98))
	separators := []string{" ", "\t", "\n", "  \n\t", "#\n", " # $ x\n ", "\n#a\n#b\n"}
	for range 5000 {
		s := random(r, r.IntN(30))
		tokens, _, e := lexer.Tokens(s)
		if e != api.OK {
			continue
		}
		var other strings.Builder
		for _, token := range tokens {
			for range 1 + r.IntN(3) {
				other.WriteString(separators[r.IntN(len(separators))])
			}
			other.WriteString(token.Text)
		}
		check(t, other.String(), parts(t, tokens)...)
	}
}
