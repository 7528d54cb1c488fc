package trace

import (
	"iter"
	"slices"

	"exactppl/api"
	"exactppl/execution"
	"exactppl/polynomial"
)

// possible returns the indices of the weights of each site that are not zero.
func possible(dists []api.Dist) [][]int {
	l := make([][]int, len(dists))
	for site, d := range dists {
		for i, w := range d.Weights {
			if len(w) > 0 {
				l[site] = append(l[site], i)
			}
		}
	}
	return l
}

// traces ranges over the traces of p, without their masses, in ascending order of their outcomes. Each one is in new memory.
func traces(p execution.Program) iter.Seq[api.Trace] {
	outcomes := possible(p.Dists)
	return func(yield func(api.Trace) bool) {
		r := p.Start()
	draws:
		for {
			for r.Draw != nil {
				r.Choose(outcomes[r.Draw.Site][0]) // the weights have the sum 1, so that there is one that is not zero
			}
			if !yield(api.Trace{Choices: slices.Clone(r.Choices), State: r.State, End: r.End}) {
				return
			}
			for i, c := range slices.Backward(r.Choices) {
				l := outcomes[c.Site]
				if next := slices.Index(l, c.Outcome) + 1; next < len(l) {
					r.Back(i)
					r.Choose(l[next])
					continue draws
				}
			}
			return
		}
	}
}

// weigh sets the masses of the traces of l. A product of first weights that a trace has in common with the one before it is computed once.
func weigh(p execution.Program, l []api.Trace) {
	products := []api.Poly{polynomial.Const(api.Rat{Num: []uint32{1}, Den: []uint32{1}})} // of the first weights of the trace before
	var before []api.Choice
	for i, t := range l {
		same := 0
		for same < min(len(before), len(t.Choices)) && before[same] == t.Choices[same] {
			same++
		}
		products = products[:same+1]
		for _, c := range t.Choices[same:] {
			product, _ := polynomial.Mul(products[len(products)-1], p.Dists[c.Site].Weights[c.Outcome]) // MaxSites times MaxWeight is not greater than MaxExp
			products = append(products, product)
		}
		l[i].Mass = products[len(products)-1] // of this trace alone: no trace is a beginning of another one
		before = t.Choices
	}
}
