package rational

import (
	"strings"

	"exactppl/api"
	"exactppl/natural"
)

// Parse reads an optional "-", a natural number, and optionally "/" and a natural number. It returns ErrSyntax if s has not this form, ErrLimit if a number has more than MaxDigits digits, and ErrDivide if the denominator is zero.
func Parse(s string) (api.Rat, api.Errno) {
	digits, neg := strings.CutPrefix(s, "-")
	first, second, found := strings.Cut(digits, "/")
	if !found {
		second = "1"
	}
	num, numError := natural.Parse(first)
	den, denError := natural.Parse(second)
	// Both numbers are read before a limit is reported, because a syntax error behind it goes first.
	for _, e := range [...]api.Errno{api.ErrSyntax, api.ErrLimit} {
		if numError == e || denError == e {
			return api.Rat{}, e
		}
	}
	return Make(neg, num, den)
}

// Format returns the normal form of a: a "-" if it is negative, the numerator, and, unless the denominator is 1, "/" and the denominator.
func Format(a api.Rat) string {
	r := Norm(a)
	text := natural.Format(r.Num)
	if r.Neg {
		text = "-" + text
	}
	if den := natural.Format(r.Den); den != "1" {
		text += "/" + den
	}
	return text
}
