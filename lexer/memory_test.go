package lexer_test

import (
	"slices"
	"strings"
	"testing"
	"unsafe"

	"exactppl/api"
	"exactppl/lexer"
)

// R3, R5 and the rule that results are new memory

const sample = "var x: bool; # c\nx ~ flip(1/3);\nreturn x;\n"

func TestResultsAreNew(t *testing.T) {
	first, _, e := lexer.Tokens(sample)
	want := slices.Clone(first)
	first = first[:cap(first)]
	for i := range first {
		first[i] = api.Token{Kind: 9, Text: "overwritten"}
	}
	second, pos, again := lexer.Tokens(sample)
	if e != api.OK || again != api.OK || pos != (api.Pos{}) || !slices.Equal(second, want) {
		t.Errorf("the tokens are %v after the first result was overwritten", second)
	}
}

// The tokens outlive the memory of the text, which its owner may use again.
func TestTextIsNotKept(t *testing.T) {
	memory := []byte(sample)
	tokens, _, e := lexer.Tokens(unsafe.String(&memory[0], len(memory)))
	if string(memory) != sample {
		t.Error("the text changed to", string(memory))
	}
	for i := range memory {
		memory[i] = '$'
	}
	want, _, _ := lexer.Tokens(strings.Clone(sample))
	if e != api.OK || !slices.Equal(tokens, want) {
		t.Errorf("the tokens are %v after the text was overwritten", tokens)
	}
}

func TestParallelCalls(t *testing.T) {
	want, _, _ := lexer.Tokens(sample)
	results := make(chan []api.Token)
	for range 8 {
		go func() {
			tokens, _, _ := lexer.Tokens(sample)
			results <- tokens
		}()
	}
	for range 8 {
		if tokens := <-results; !slices.Equal(tokens, want) {
			t.Errorf("the tokens are %v, not %v", tokens, want)
		}
	}
}
