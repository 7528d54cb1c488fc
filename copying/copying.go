// Package copying copies valid modules into new memory. Layers 13 and 18 change the copies, which have their polynomials and fractions in normal form; no two of their lists share memory.
package copying

import (
	"slices"

	"exactppl/api"
	"exactppl/polynomial"
	"exactppl/rational"
)

// each returns what change returns for each element of l.
func each[A, B any](l []A, change func(A) B) []B {
	var changed []B
	for _, x := range l {
		changed = append(changed, change(x))
	}
	return changed
}

// Module returns a copy of m.
func Module(m api.Module) api.Module {
	return api.Module{
		Params: m.Params,
		Cells:  slices.Clone(m.Cells),
		Procs:  each(m.Procs, procedure),
		Nested: each(m.Nested, Module),
		Body:   each(m.Body, command),
		Outs:   slices.Clone(m.Outs),
		Type:   typeOf(m.Type),
	}
}

func procedure(p api.Proc) api.Proc {
	return api.Proc{Cells: slices.Clone(p.Cells), Args: p.Args, Body: each(p.Body, command), Outs: slices.Clone(p.Outs)}
}

func command(c api.Cmd) api.Cmd {
	return api.Cmd{
		Kind: c.Kind,
		Var:  c.Var,
		Site: c.Site,
		Form: form(c.Form),
		Dist: Dist(c.Dist),
		Then: each(c.Then, command),
		Else: each(c.Else, command),
		Args: each(c.Args, form),
		Outs: slices.Clone(c.Outs),
	}
}

// Dist returns a copy of d. It leaves fractions that are not used zero, and not in the normal form of 0.
func Dist(d api.Dist) api.Dist {
	n := api.Dist{Kind: d.Kind, Low: d.Low, High: d.High, Weights: each(d.Weights, weight)}
	switch d.Kind {
	case api.DistInterval:
		n.To = rational.Norm(d.To)
		fallthrough
	case api.DistGeometric:
		n.From = rational.Norm(d.From)
	}
	return n
}

func weight(p api.Poly) api.Poly {
	p, _ = polynomial.Norm(p) // weights are valid
	return p
}

func form(f api.Form) api.Form {
	n := api.Form{Op: f.Op, Int: f.Int, Args: each(f.Args, form)}
	if f.Op == api.FoRat {
		n.Rat = rational.Norm(f.Rat)
	}
	return n
}

func typeOf(t api.Type) api.Type {
	t.Elems = each(t.Elems, typeOf)
	return t
}
