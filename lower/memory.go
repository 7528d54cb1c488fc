package lower

import (
	"slices"

	"exactppl/api"
)

// each returns what change returns for each element of l.
func each[A, B any](l []A, change func(A) B) []B {
	var changed []B
	for _, x := range l {
		changed = append(changed, change(x))
	}
	return changed
}

// Copies share no memory with what is copied, and none of their parts share memory.

func copyOfRat(r api.Rat) api.Rat {
	r.Num, r.Den = slices.Clone(r.Num), slices.Clone(r.Den)
	return r
}

func copyOfPoly(p api.Poly) api.Poly {
	return each(p, func(t api.Term) api.Term {
		t.Coef = copyOfRat(t.Coef)
		return t
	})
}

func copyOfDist(d api.Dist) api.Dist {
	d.From, d.To = copyOfRat(d.From), copyOfRat(d.To)
	d.Weights = each(d.Weights, copyOfPoly)
	return d
}

func copyOfForm(f api.Form) api.Form {
	f.Rat, f.Args = copyOfRat(f.Rat), each(f.Args, copyOfForm)
	return f
}

func copyOfCmd(c api.Cmd) api.Cmd {
	c.Form, c.Dist = copyOfForm(c.Form), copyOfDist(c.Dist)
	c.Then, c.Else = each(c.Then, copyOfCmd), each(c.Else, copyOfCmd)
	c.Args, c.Outs = each(c.Args, copyOfForm), slices.Clone(c.Outs)
	return c
}

func copyOfType(t api.Type) api.Type {
	t.Elems = each(t.Elems, copyOfType)
	return t
}
