package nested

import (
	"slices"
	"sync"

	"exactppl/api"
	"exactppl/core"
	"exactppl/measure"
	"exactppl/trace"
	"exactppl/types"
)

// query is a nested module. Its table, or the error in its place, is computed when it is first asked for.
type query struct {
	module api.Module
	once   sync.Once
	dist   api.Dist
	errno  api.Errno
}

// queries are the nested modules of a module, in order.
type queries []query

// queriesOf takes nested modules over, in which it will replace the draws from others.
func queriesOf(l []api.Module) queries {
	all := make(queries, len(l))
	for i, m := range l {
		all[i].module = m
	}
	return all
}

// table returns the table of the nested module i, or its error. The modules before it, from which it may draw, have no error.
func (all queries) table(i int) (api.Dist, api.Errno) {
	q := &all[i]
	q.once.Do(func() {
		all.replace(q.module.Body)
		q.dist, q.errno = posterior(q.module)
	})
	return q.dist, q.errno
}

// replace puts tables in the places of the draws of l from nested modules, also inside other commands.
func (all queries) replace(l []api.Cmd) {
	for i := range l {
		c := &l[i]
		if c.Dist.Kind == api.DistNested {
			table, _ := all.table(c.Dist.Low)
			c.Dist = clone(table)
		}
		all.replace(c.Then)
		all.replace(c.Else)
	}
}

// clone returns a copy of a table, whose weights are constants in normal form: each draw has its own.
func clone(table api.Dist) api.Dist {
	weights := make([]api.Poly, len(table.Weights))
	for i, w := range table.Weights {
		for _, t := range w {
			t.Coef.Num, t.Coef.Den = slices.Clone(t.Coef.Num), slices.Clone(t.Coef.Den)
			weights[i] = append(weights[i], t)
		}
	}
	table.Weights = weights
	return table
}

// posterior returns the posterior of m, whose result is one cell and whose draws are from tables, as a table.
func posterior(m api.Module) (api.Dist, api.Errno) {
	m, e := core.Number(m)
	if e != api.OK {
		return api.Dist{}, e
	}
	masses, e := trace.Measure(m)
	if e != api.OK {
		return api.Dist{}, e
	}
	l, e := measure.Posterior(masses)
	if e != api.OK {
		return api.Dist{}, e
	}
	cells, _ := types.Cells(m.Type) // m is valid
	size, _ := types.Size(m.Type)
	table := api.Dist{Kind: api.DistTable, Low: cells[0].Low, Weights: make([]api.Poly, size)}
	for _, p := range l {
		table.Weights[p.Key[0]-table.Low] = p.Prob.Num // without parameters the denominator is 1
	}
	return table, api.OK
}
