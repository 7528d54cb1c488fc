package lexer

import "exactppl/api"

// maxSign is the number of bytes of the longest signs.
const maxSign = 2

// reader reads a text token by token: the bytes from begin to next are those of the token that have been read.
type reader struct {
	text        string
	begin, next int
	pos         api.Pos // of the byte at next
}

// read begins a token, steps over the bytes that continue it, and returns them.
func (r *reader) read(continues func(byte) bool) string {
	r.begin = r.next
	for r.next < len(r.text) && continues(r.text[r.next]) {
		r.step()
	}
	return r.text[r.begin:r.next]
}

// step goes to the next byte.
func (r *reader) step() {
	r.pos.Col++
	if r.text[r.next] == '\n' {
		r.pos = api.Pos{Line: r.pos.Line + 1, Col: 1}
	}
	r.next++
}

// begun reports whether the token has a byte.
func (r *reader) begun() bool { return r.begin < r.next }

func (r *reader) inBlank(c byte) bool { return c == ' ' || c == '\t' || c == '\n' }

func (r *reader) inComment(c byte) bool {
	if r.begun() {
		return c != '\n'
	}
	return c == '#'
}

func (r *reader) inName(c byte) bool { return isLetter(c) || r.begun() && r.inNumber(c) }

func (r *reader) inNumber(c byte) bool { return '0' <= c && c <= '9' }

// inSign looks at the whole sign instead of a byte, because a byte that begins a sign need not be one.
func (r *reader) inSign(byte) bool { return r.next-r.begin < signLength(r.text[r.begin:]) }

func isLetter(c byte) bool { return 'a' <= c && c <= 'z' || 'A' <= c && c <= 'Z' || c == '_' }

// signLength returns the number of bytes of the longest sign with which s begins, or 0.
func signLength(s string) int {
	for n := min(maxSign, len(s)); n > 0; n-- {
		if isSign(s[:n]) {
			return n
		}
	}
	return 0
}

func isSign(s string) bool {
	switch s {
	case ":=", "==", "!=", "<=", ">=", "&&", "||",
		"~", "<", ">", "+", "-", "*", "/",
		"(", ")", "[", "]", "{", "}", ",", ";", ":", "?", ".", "!":
		return true
	}
	return false
}
