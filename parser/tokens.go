package parser

import (
	"strconv"

	"exactppl/api"
	"exactppl/rational"
)

// maxNumber is the greatest number that is no part of a fraction.
const maxNumber = 1000000

// parser takes tokens one after the other. The last one, the end, is never taken.
type parser struct {
	tokens []api.Token
	taken  int
	open   int // the brackets that are open
}

// next returns the first token that is not taken.
func (p *parser) next() api.Token { return p.tokens[p.taken] }

// isBefore reports whether a token of this kind, which is not TokenEnd, comes next, and the sign behind it.
func (p *parser) isBefore(kind int, sign string) bool {
	return p.next().Kind == kind && p.tokens[p.taken+1].Text == sign
}

// failure returns the error as one of the next token.
func (p *parser) failure(e api.Errno) failure {
	token := p.next()
	return failure{api.Pos{Line: token.Line, Col: token.Col}, e}
}

// take takes the next token, which is one that the grammar permits here.
func (p *parser) take() {
	switch p.next().Text {
	case "(", "[", "{":
		if p.open == api.MaxDepth {
			panic(p.failure(api.ErrLimit))
		}
		p.open++
	case ")", "]", "}":
		p.open--
	}
	p.taken++
}

// accept takes the keyword or sign if it comes next, and reports whether it does.
func (p *parser) accept(text string) bool {
	found := p.next().Text == text
	if found {
		p.take()
	}
	return found
}

// expect takes the keyword or sign, which must come next.
func (p *parser) expect(text string) {
	if !p.accept(text) {
		panic(p.failure(api.ErrSyntax))
	}
}

// opens takes the keyword and "(" behind it if the keyword comes next, and reports whether it does.
func (p *parser) opens(word string) bool {
	found := p.accept(word)
	if found {
		p.expect("(")
	}
	return found
}

// textOf returns the text of the next token, which must be of this kind.
func (p *parser) textOf(kind int) string {
	if p.next().Kind != kind {
		panic(p.failure(api.ErrSyntax))
	}
	return p.next().Text
}

// name reads a NAME.
func (p *parser) name() string {
	text := p.textOf(api.TokenName)
	p.take()
	return text
}

// number reads a NUMBER that is no part of a fraction.
func (p *parser) number() int {
	n, err := strconv.Atoi(p.textOf(api.TokenNumber))
	if err != nil || n > maxNumber {
		panic(p.failure(api.ErrLimit))
	}
	p.take()
	return n
}

// integer reads an INT.
func (p *parser) integer() int {
	if p.accept("-") {
		return -p.number()
	}
	return p.number()
}

// fraction reads a RAT.
func (p *parser) fraction() api.Rat {
	text := ""
	if p.accept("-") {
		text = "-"
	}
	text += p.textOf(api.TokenNumber)
	p.take()
	if !p.accept("/") {
		return p.value(text)
	}
	r := p.value(text + "/" + p.textOf(api.TokenNumber))
	p.take()
	return r
}

// value returns the fraction with this text. Only the denominator can be wrong, which then comes next.
func (p *parser) value(text string) api.Rat {
	r, e := rational.Parse(text)
	if e != api.OK {
		panic(p.failure(e))
	}
	return r
}

// list reads one part or several parts with commas between them.
func list[T any](p *parser, part func() T) []T {
	parts := []T{part()}
	for p.accept(",") {
		parts = append(parts, part())
	}
	return parts
}

// listUntil reads any number of parts with commas between them, and the sign behind them.
func listUntil[T any](p *parser, sign string, part func() T) []T {
	if p.accept(sign) {
		return nil
	}
	parts := list(p, part)
	p.expect(sign)
	return parts
}

// pair reads two parts with a comma between them.
func pair[T any](p *parser, part func() T) (T, T) {
	first := part()
	p.expect(",")
	return first, part()
}
