package trace

import (
	"iter"
	"slices"

	"exactppl/api"
	"exactppl/core"
	"exactppl/polynomial"
)

// program is an enumerable module, with the distributions of its draws by their sites; their weights are in normal form.
type program struct {
	cells []api.Cell
	body  []api.Cmd
	dists []api.Dist
}

// enumerable returns m as a program, or the error of core.Validate, or ErrClass if m is not enumerable.
func enumerable(m api.Module) (program, api.Errno) {
	dists, e := core.Sites(m)
	switch {
	case e != api.OK:
		return program{}, e
	case slices.ContainsFunc(m.Cells, isReal), slices.ContainsFunc(dists, isNoTable), haveFraction(m.Body):
		return program{}, api.ErrClass
	}
	return program{m.Cells, m.Body, dists}, api.OK
}

func isReal(c api.Cell) bool { return c.Kind == api.TypeReal }

func isNoTable(d api.Dist) bool { return d.Kind != api.DistTable }

// haveFraction reports whether FoRat occurs in the forms of l, also inside other commands.
func haveFraction(l []api.Cmd) bool {
	return slices.ContainsFunc(l, func(c api.Cmd) bool {
		return hasFraction(c.Form) || slices.ContainsFunc(c.Args, hasFraction) || haveFraction(c.Then) || haveFraction(c.Else)
	})
}

func hasFraction(f api.Form) bool {
	return f.Op == api.FoRat || slices.ContainsFunc(f.Args, hasFraction)
}

// outcomes returns the indices of the weights of each site that are not zero.
func (p program) outcomes() [][]int {
	l := make([][]int, len(p.dists))
	for site, d := range p.dists {
		for i, w := range d.Weights {
			if len(w) > 0 {
				l[site] = append(l[site], i)
			}
		}
	}
	return l
}

// junction is a draw of a run: the run before it, and the outcome that the run has, followed by those that it has not had yet.
type junction struct {
	draw     *api.Cmd
	before   run
	outcomes []int
}

// traces ranges over the traces, without their masses, in ascending order of their outcomes. Each one is in new memory.
func (p program) traces() iter.Seq[api.Trace] {
	outcomes := p.outcomes()
	return func(yield func(api.Trace) bool) {
		var passed []junction // the draws of r
		r := p.start()
	draws:
		for {
			for c := r.advance(); c != nil; c = r.advance() {
				j := junction{c, r.fork(), outcomes[c.Site]}
				passed = append(passed, j)
				r.choose(c, j.outcomes[0]) // the weights have the sum 1, so that there is one that is not zero
			}
			if !yield(r.Trace) {
				return
			}
			for i, j := range slices.Backward(passed) {
				if len(j.outcomes) > 1 {
					passed = passed[:i+1]
					passed[i].outcomes = j.outcomes[1:]
					r = j.before.fork()
					r.choose(j.draw, j.outcomes[1])
					continue draws
				}
			}
			return
		}
	}
}

// weigh sets the masses of the traces of l. A product of first weights that a trace has in common with the one before it is computed once.
func (p program) weigh(l []api.Trace) {
	products := []api.Poly{polynomial.Const(api.Rat{Num: []uint32{1}, Den: []uint32{1}})} // of the first weights of the trace before
	var before []api.Choice
	for i, t := range l {
		same := 0
		for same < min(len(before), len(t.Choices)) && before[same] == t.Choices[same] {
			same++
		}
		products = products[:same+1]
		for _, c := range t.Choices[same:] {
			product, _ := polynomial.Mul(products[len(products)-1], p.dists[c.Site].Weights[c.Outcome]) // MaxSites times MaxWeight is not greater than MaxExp
			products = append(products, product)
		}
		l[i].Mass = products[len(products)-1] // of this trace alone: no trace is a beginning of another one
		before = t.Choices
	}
}
