package core

import (
	"slices"

	"exactppl/api"
	"exactppl/polynomial"
	"exactppl/types"
)

// comparison compares parts of modules.
type comparison struct{ withSites bool }

// Same reports whether a and b are equal in all fields but Site. Polynomials and fractions are compared by what they denote.
func Same(a, b []api.Cmd) bool { return comparison{}.areEqual(a, b) }

// Equal reports whether a and b are equal in all fields, where polynomials and fractions are compared by what they denote.
func Equal(a, b api.Module) bool {
	withSites := comparison{true}
	equalProcs := func(p, q api.Proc) bool {
		return p.Args == q.Args && slices.Equal(p.Cells, q.Cells) && slices.Equal(p.Outs, q.Outs) && withSites.areEqual(p.Body, q.Body)
	}
	return a.Params == b.Params && slices.Equal(a.Cells, b.Cells) && slices.Equal(a.Outs, b.Outs) && types.Equal(a.Type, b.Type) &&
		withSites.areEqual(a.Body, b.Body) && slices.EqualFunc(a.Procs, b.Procs, equalProcs) && slices.EqualFunc(a.Nested, b.Nested, Equal)
}

func (c comparison) areEqual(a, b []api.Cmd) bool { return slices.EqualFunc(a, b, c.isEqual) }

func (c comparison) isEqual(x, y api.Cmd) bool {
	return x.Kind == y.Kind && x.Var == y.Var && (x.Site == y.Site || !c.withSites) && slices.Equal(x.Outs, y.Outs) &&
		equalForms(x.Form, y.Form) && slices.EqualFunc(x.Args, y.Args, equalForms) && equalDists(x.Dist, y.Dist) &&
		c.areEqual(x.Then, y.Then) && c.areEqual(x.Else, y.Else)
}

func equalForms(f, g api.Form) bool { return form(f).equals(form(g)) }

func equalDists(d, g api.Dist) bool {
	return d.Kind == g.Kind && d.Low == g.Low && d.High == g.High && equalRats(d.From, g.From) && equalRats(d.To, g.To) && slices.EqualFunc(d.Weights, g.Weights, polynomial.Equal)
}
