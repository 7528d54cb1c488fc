package core

import (
	"slices"

	"exactppl/api"
	"exactppl/polynomial"
	"exactppl/rational"
)

// copier copies parts of a valid module. Copies have fractions in normal form and share no memory with what is copied; no two of their lists share memory.
type copier struct {
	weight func(api.Poly) api.Poly // returns what a weight is replaced by
}

// normal returns the normal form of a valid polynomial.
func normal(p api.Poly) api.Poly {
	p, _ = polynomial.Norm(p)
	return p
}

// each returns what change returns for each element of l.
func each[A, B any](l []A, change func(A) B) []B {
	var changed []B
	for _, x := range l {
		changed = append(changed, change(x))
	}
	return changed
}

func (c copier) module(m api.Module) api.Module {
	return api.Module{
		Params: m.Params,
		Cells:  slices.Clone(m.Cells),
		Procs:  each(m.Procs, c.procedure),
		Nested: each(m.Nested, c.module),
		Body:   each(m.Body, c.command),
		Outs:   slices.Clone(m.Outs),
		Type:   copyOfType(m.Type),
	}
}

func (c copier) procedure(p api.Proc) api.Proc {
	return api.Proc{Cells: slices.Clone(p.Cells), Args: p.Args, Body: each(p.Body, c.command), Outs: slices.Clone(p.Outs)}
}

func (c copier) command(x api.Cmd) api.Cmd {
	return api.Cmd{
		Kind: x.Kind,
		Var:  x.Var,
		Site: x.Site,
		Form: copyOfForm(x.Form),
		Dist: c.dist(x.Dist),
		Then: each(x.Then, c.command),
		Else: each(x.Else, c.command),
		Args: each(x.Args, copyOfForm),
		Outs: slices.Clone(x.Outs),
	}
}

// dist leaves fractions that are not used zero, and not in the normal form of 0.
func (c copier) dist(d api.Dist) api.Dist {
	n := api.Dist{Kind: d.Kind, Low: d.Low, High: d.High, Weights: each(d.Weights, c.weight)}
	switch d.Kind {
	case api.DistInterval:
		n.To = rational.Norm(d.To)
		fallthrough
	case api.DistGeometric:
		n.From = rational.Norm(d.From)
	}
	return n
}

func copyOfForm(f api.Form) api.Form {
	n := api.Form{Op: f.Op, Int: f.Int, Args: each(f.Args, copyOfForm)}
	if f.Op == api.FoRat {
		n.Rat = rational.Norm(f.Rat)
	}
	return n
}

func copyOfType(t api.Type) api.Type {
	t.Elems = each(t.Elems, copyOfType)
	return t
}
