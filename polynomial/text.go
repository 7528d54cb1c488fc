package polynomial

import (
	"slices"
	"strconv"
	"strings"

	"exactppl/api"
	"exactppl/rational"
)

// Format returns the terms of the normal form of p with the names of the variables. It returns ErrRange if a variable that occurs there has no name.
func Format(p api.Poly, names []string) (string, api.Errno) {
	p, e := Norm(p)
	if e != api.OK {
		return "", e
	}
	if len(p) == 0 {
		return "0", api.OK
	}
	var text strings.Builder
	for i, t := range p {
		term, e := formatTerm(t, names)
		if e != api.OK {
			return "", e
		}
		text.WriteString(sign(i == 0, t.Coef.Neg))
		text.WriteString(term)
	}
	return text.String(), api.OK
}

// sign returns what stands in front of the absolute value of a term.
func sign(first, neg bool) string {
	switch {
	case first && neg:
		return "-"
	case first:
		return ""
	case neg:
		return " - "
	}
	return " + "
}

// formatTerm returns the absolute value of t.
func formatTerm(t api.Term, names []string) (string, api.Errno) {
	var parts []string
	for v, exp := range t.Mono {
		if exp == 0 {
			continue
		}
		if v >= len(names) {
			return "", api.ErrRange
		}
		part := names[v]
		if exp > 1 {
			part += "^" + strconv.Itoa(exp)
		}
		parts = append(parts, part)
	}
	t.Coef.Neg = false
	coef := rational.Format(t.Coef)
	if coef != "1" || len(parts) == 0 {
		parts = slices.Insert(parts, 0, coef)
	}
	return strings.Join(parts, "*"), api.OK
}
