package core_test

import (
	"slices"

	"exactppl/api"
	"exactppl/polynomial"
	"exactppl/rational"
	"exactppl/types"
)

// The definitions of P13.1, for modules of any form: the limits by measuring the whole module, and the sentences of the definition of a well-formed module that do not hold.

// bodiesOf returns the bodies that count for the limits.
func bodiesOf(m api.Module) [][]api.Cmd {
	l := [][]api.Cmd{m.Body}
	for _, p := range m.Procs {
		l = append(l, p.Body)
	}
	for _, n := range m.Nested {
		l = append(l, n.Body)
	}
	return l
}

// flat returns the commands of l and those in them.
func flat(l []api.Cmd) []api.Cmd {
	var all []api.Cmd
	for _, c := range l {
		all = append(append(append(all, c), flat(c.Then)...), flat(c.Else)...)
	}
	return all
}

func depthOfList(l []api.Cmd) int {
	if len(l) == 0 {
		return 0
	}
	depth := 0
	for _, c := range l {
		depth = max(depth, depthOfList(c.Then), depthOfList(c.Else))
	}
	return 1 + depth
}

// extent returns the depth and the size of a form.
func extent(f api.Form) (depth, size int) {
	size = 1
	for _, arg := range f.Args {
		d, s := extent(arg)
		depth, size = max(depth, d), size+s
	}
	return depth + 1, size
}

// isTooLarge reports whether a module has ErrLimit.
func isTooLarge(m api.Module) bool {
	count, sum, cells := 0, 0, len(m.Cells)
	for _, p := range m.Procs {
		cells = max(cells, len(p.Cells))
	}
	for _, n := range m.Nested {
		cells = max(cells, len(n.Cells))
	}
	tooLarge := false
	for _, body := range bodiesOf(m) {
		tooLarge = tooLarge || depthOfList(body) > 200
		for _, c := range flat(body) {
			count++
			for i, f := range append(slices.Clone(c.Args), c.Form) {
				depth, size := extent(f)
				tooLarge = tooLarge || depth > 200 || size > 20000
				if i < len(c.Args) || slices.Contains([]int{api.CmdIf, api.CmdObserve, api.CmdWhile}, c.Kind) {
					sum += size
				}
			}
		}
	}
	return tooLarge || count > 2000 || sum > 200000 || cells > 400
}

// validator collects what is wrong with a block of a module.
type validator struct {
	cells  []api.Cell
	params int
	procs  []api.Proc
	nested int // how many nested modules can be drawn from
	faults map[string]bool
}

func (v *validator) require(holds bool, what string) {
	if !holds {
		v.faults[what] = true
	}
}

// faultsOf returns the sentences that do not hold for m.
func faultsOf(m api.Module) map[string]bool {
	v := &validator{m.Cells, m.Params, m.Procs, len(m.Nested), map[string]bool{}}
	v.require(m.Params >= 0 && m.Params <= 3, "Params is from 0 to MaxParams")
	v.params = max(0, min(m.Params, 3))
	v.require(len(m.Procs) <= 8, "at most MaxFuncs procedures")
	v.require(len(m.Nested) <= 8, "at most MaxFuncs nested modules")
	v.result(m)
	v.block(m.Body)
	for _, p := range m.Procs {
		w := *v
		w.cells = p.Cells
		w.require(!slices.ContainsFunc(p.Cells, isInfinite), "a procedure has only finite cells")
		w.require(p.Args >= 0 && p.Args <= len(p.Cells), "Args of a procedure")
		w.require(len(p.Outs) > 0, "at least one out of a procedure")
		w.require(w.areCells(p.Outs), "Outs of a procedure are cells")
		w.block(p.Body)
	}
	for i, n := range m.Nested {
		w := &validator{n.Cells, 0, nil, i, v.faults}
		w.require(n.Params == 0, "a nested module has no parameters")
		w.require(len(n.Procs) == 0, "a nested module has no procedures")
		w.require(len(n.Nested) == 0, "a nested module has no nested modules")
		w.require(!slices.ContainsFunc(n.Cells, isInfinite), "a nested module has only finite cells")
		w.require(len(n.Outs) == 1, "a nested module has one out")
		size, e := types.Size(n.Type)
		w.require(e != api.OK || size <= 16, "at most MaxOutcomes values")
		for _, c := range flat(n.Body) {
			w.require(c.Kind != api.CmdWhile && c.Kind != api.CmdCall && c.Kind != api.CmdCut, "no CmdWhile, CmdCall and CmdCut in a nested module")
		}
		w.result(n)
		w.block(n.Body)
	}
	return v.faults
}

func isInfinite(c api.Cell) bool { return c.Kind == api.TypeNat || c.Kind == api.TypeReal }

func (v *validator) result(m api.Module) {
	cells, e := types.Cells(m.Type)
	v.require(e == api.OK, "Type is valid")
	v.require(v.areCells(m.Outs), "Outs are indices of cells")
	if e == api.OK && v.areCells(m.Outs) {
		v.require(slices.Equal(each(m.Outs, v.cell), cells), "the cells of Outs are those of Type")
	}
}

// cell returns a cell, or none if there is no such cell.
func (v *validator) cell(i int) api.Cell {
	if i < 0 || i >= len(v.cells) {
		return api.Cell{}
	}
	return v.cells[i]
}

func (v *validator) isCell(i int) bool { return i >= 0 && i < len(v.cells) }

func (v *validator) areCells(l []int) bool {
	return !slices.ContainsFunc(l, func(i int) bool { return !v.isCell(i) })
}

func areDifferent(l []int) bool {
	for i, x := range l {
		if slices.Contains(l[i+1:], x) {
			return false
		}
	}
	return true
}

func (v *validator) block(l []api.Cmd) {
	for _, c := range v.cells {
		bounded := c.Kind == api.TypeInt && -1000 <= c.Low && c.Low <= c.High && c.High <= 1000
		v.require(bounded || slices.Contains([]api.Cell{{Kind: api.TypeBool, High: 1}, {Kind: api.TypeNat}, {Kind: api.TypeReal}}, c), "each cell has a kind and a range")
	}
	for _, c := range flat(l) {
		v.unused(c)
		v.command(c)
	}
}

// form examines a form and reports whether it is real and whether a variable occurs in it.
func (v *validator) form(f api.Form) (isReal, named bool) {
	arguments := []int{-1, 0, 0, 0, 1, 2, 2, 2, 2, 2, 2, 2, 2, 3}
	exists := f.Op >= 1 && f.Op <= 13
	v.require(exists, "the operator exists")
	v.require(!exists || len(f.Args) == arguments[f.Op], "the number of arguments")
	v.require(f.Int == 0 || !exists || f.Op == api.FoInt || f.Op == api.FoVar, "Int is not used")
	v.require(same(f.Rat, api.Rat{}) || !exists || f.Op == api.FoRat, "Rat is not used")
	var reals, names []bool
	for _, arg := range f.Args {
		isReal, named := v.form(arg)
		reals, names = append(reals, isReal), append(names, named)
	}
	hasReal, named := slices.Contains(reals, true), slices.Contains(names, true)
	switch f.Op {
	case api.FoRat:
		return true, named
	case api.FoVar:
		v.require(v.isCell(f.Int), "a variable is a cell")
		return v.cell(f.Int).Kind == api.TypeReal, true
	case api.FoNot, api.FoAnd, api.FoOr, api.FoEq, api.FoCond:
		v.require(!hasReal, "an argument is not real")
	case api.FoMul:
		v.require(!hasReal || slices.Contains(names, false), "an argument of a real product has no variable")
	}
	return hasReal && slices.Contains([]int{api.FoAdd, api.FoSub, api.FoMul}, f.Op), named
}

// plain examines a form that must not be real.
func (v *validator) plain(f api.Form, what string) {
	isReal, _ := v.form(f)
	v.require(!isReal, what)
}

// unused examines the fields that the kind of a command does not use.
func (v *validator) unused(c api.Cmd) {
	used := map[int]string{api.CmdSet: "Outs Args", api.CmdDraw: "Var Dist", api.CmdIf: "Form Then Else", api.CmdObserve: "Form", api.CmdCut: "", api.CmdWhile: "Form Then", api.CmdCall: "Var Args Outs"}
	l, exists := used[c.Kind]
	v.require(exists, "the kind of a command exists")
	for name, isZero := range map[string]bool{"Var": c.Var == 0, "Form": same(c.Form, api.Form{}), "Dist": same(c.Dist, api.Dist{}), "Then": len(c.Then) == 0, "Else": len(c.Else) == 0, "Args": len(c.Args) == 0, "Outs": len(c.Outs) == 0} {
		v.require(!exists || isZero || contains(l, name), "a field of a command is not used: "+name)
	}
}

func (v *validator) command(c api.Cmd) {
	switch c.Kind {
	case api.CmdSet:
		v.require(len(c.Outs) == len(c.Args), "as many Args as Outs")
		v.require(len(c.Args) > 0, "at least one of Args")
		v.require(v.areCells(c.Outs), "Outs of an assignment are cells")
		v.require(areDifferent(c.Outs), "Outs of an assignment are different")
		for i, f := range c.Args {
			isReal, _ := v.form(f)
			v.require(!isReal || i >= len(c.Outs) || v.cell(c.Outs[i]).Kind == api.TypeReal, "a real value for a cell that is not real")
		}
	case api.CmdDraw:
		v.require(v.isCell(c.Var), "Var of a draw is a cell")
		v.dist(c.Dist)
		kinds := map[int][]int{api.DistTable: {1, 2, 3}, api.DistNested: {1, 2, 3}, api.DistGeometric: {3}, api.DistInterval: {4}, api.DistBeta: {4}}[c.Dist.Kind]
		v.require(kinds == nil || !v.isCell(c.Var) || slices.Contains(kinds, v.cell(c.Var).Kind) || isInvalidKind(v.cell(c.Var)), "the cell for a distribution")
	case api.CmdIf:
		v.plain(c.Form, "a condition is not real")
	case api.CmdObserve:
		v.plain(c.Form, "an observation is not real")
	case api.CmdWhile:
		v.plain(c.Form, "the form of a loop is not real")
	case api.CmdCall:
		v.call(c)
	}
}

func isInvalidKind(c api.Cell) bool { return c.Kind < api.TypeBool || c.Kind > api.TypeReal }

func (v *validator) call(c api.Cmd) {
	exists := c.Var >= 0 && c.Var < len(v.procs)
	v.require(exists, "a procedure is called")
	for _, f := range c.Args {
		v.plain(f, "an argument of a call is not real")
	}
	v.require(v.areCells(c.Outs), "Outs of a call are cells")
	v.require(areDifferent(c.Outs), "Outs of a call are different")
	v.require(!slices.ContainsFunc(c.Outs, func(i int) bool { return v.cell(i).Kind == api.TypeReal }), "Outs of a call are not real")
	if exists {
		v.require(len(c.Args) == v.procs[c.Var].Args, "as many Args as the procedure has")
		v.require(len(c.Outs) == len(v.procs[c.Var].Outs), "as many Outs as the procedure has")
	}
}

// contains reports whether a list of words has a word.
func contains(words, word string) bool {
	for len(words) > 0 {
		n := 0
		for n < len(words) && words[n] != ' ' {
			n++
		}
		if words[:n] == word {
			return true
		}
		words = words[min(n+1, len(words)):]
	}
	return false
}

func (v *validator) dist(d api.Dist) {
	used := map[int]string{api.DistTable: "Low Weights", api.DistGeometric: "From", api.DistInterval: "From To", api.DistBeta: "Low High", api.DistNested: "Low"}
	l, exists := used[d.Kind]
	v.require(exists, "the kind of a distribution exists")
	for name, isZero := range map[string]bool{"Low": d.Low == 0, "High": d.High == 0, "Weights": len(d.Weights) == 0, "From": same(d.From, api.Rat{}), "To": same(d.To, api.Rat{})} {
		v.require(!exists || isZero || contains(l, name), "a field of a distribution is not used: "+name)
	}
	switch d.Kind {
	case api.DistTable:
		v.table(d)
	case api.DistGeometric:
		v.require(rational.Sign(d.From) >= 0, "From is at least 0")
		v.require(rational.Cmp(d.From, rational.Int(1)) < 0, "From is less than 1")
	case api.DistInterval:
		v.require(rational.Cmp(d.From, d.To) < 0, "From is less than To")
	case api.DistBeta:
		v.require(d.Low >= 1 && d.Low <= 6, "Low of a beta density")
		v.require(d.High >= 1 && d.High <= 6, "High of a beta density")
	case api.DistNested:
		v.require(d.Low >= 0 && d.Low < v.nested, "Low is a nested module")
	}
}

func (v *validator) table(d api.Dist) {
	n := len(d.Weights)
	v.require(n >= 1, "at least one weight")
	v.require(n <= 16, "at most MaxOutcomes weights")
	v.require(d.Low >= -1000 && d.Low <= 1000, "Low of a table")
	v.require(n == 0 || d.Low > 1000 || d.Low+n-1 <= 1000, "the greatest outcome of a table")
	var sum api.Poly
	valid := true
	for _, w := range d.Weights {
		normal, e := polynomial.Norm(w)
		v.require(e == api.OK, "a weight is a valid polynomial")
		valid = valid && e == api.OK
		for _, t := range normal {
			v.require(slices.Max(t.Mono[:]) <= 16, "no exponent greater than MaxWeight")
			v.require(slices.Max(t.Mono[v.params:]) == 0, "no variable beyond the parameters")
		}
		degree := 0
		for _, t := range normal {
			degree = max(degree, slices.Max(t.Mono[:]))
		}
		v.require(degree > 0 || len(normal) == 0 || rational.Sign(normal[0].Coef) > 0, "no weight is a negative constant")
		sum, _ = polynomial.Add(sum, normal)
	}
	v.require(!valid || n == 0 || polynomial.Equal(sum, polynomial.Const(rational.Int(1))), "the sum of the weights is 1")
}

// sentences are what a well-formed module requires.
func sentences() []string {
	return []string{
		"Params is from 0 to MaxParams", "at most MaxFuncs procedures", "at most MaxFuncs nested modules", "Type is valid", "Outs are indices of cells", "the cells of Outs are those of Type", "each cell has a kind and a range",
		"a procedure has only finite cells", "Args of a procedure", "at least one out of a procedure", "Outs of a procedure are cells",
		"a nested module has no parameters", "a nested module has no procedures", "a nested module has no nested modules", "a nested module has only finite cells", "a nested module has one out", "at most MaxOutcomes values", "no CmdWhile, CmdCall and CmdCut in a nested module",
		"the operator exists", "the number of arguments", "Int is not used", "Rat is not used", "a variable is a cell", "an argument is not real", "an argument of a real product has no variable",
		"the kind of a command exists", "a field of a command is not used: Var", "a field of a command is not used: Form", "a field of a command is not used: Dist", "a field of a command is not used: Then", "a field of a command is not used: Else", "a field of a command is not used: Args", "a field of a command is not used: Outs",
		"as many Args as Outs", "at least one of Args", "Outs of an assignment are cells", "Outs of an assignment are different", "a real value for a cell that is not real", "Var of a draw is a cell", "the cell for a distribution", "a condition is not real", "an observation is not real", "the form of a loop is not real",
		"a procedure is called", "an argument of a call is not real", "Outs of a call are cells", "Outs of a call are different", "Outs of a call are not real", "as many Args as the procedure has", "as many Outs as the procedure has",
		"the kind of a distribution exists", "a field of a distribution is not used: Low", "a field of a distribution is not used: High", "a field of a distribution is not used: Weights", "a field of a distribution is not used: From", "a field of a distribution is not used: To",
		"From is at least 0", "From is less than 1", "From is less than To", "Low of a beta density", "High of a beta density", "Low is a nested module",
		"at least one weight", "at most MaxOutcomes weights", "Low of a table", "the greatest outcome of a table", "a weight is a valid polynomial", "no exponent greater than MaxWeight", "no variable beyond the parameters", "no weight is a negative constant", "the sum of the weights is 1",
	}
}
