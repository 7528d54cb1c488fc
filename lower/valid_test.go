package lower_test

import (
	"slices"

	"exactppl/api"
	"exactppl/polynomial"
	"exactppl/rational"
	"exactppl/types"
)

// P12.7: the definition of a well-formed module in P13.1, for modules within the limits. Sites must be 0.

// validator examines the commands of a module, a procedure or a nested module.
type validator struct {
	cells   []api.Cell
	params  int
	procs   []api.Proc
	nested  int  // how many nested modules can be drawn from
	inQuery bool // whether the module is nested
	fault   string
}

func (v *validator) require(holds bool, what string) {
	if !holds && v.fault == "" {
		v.fault = what
	}
}

// faultOf returns what is wrong with a module, or nothing.
func faultOf(m api.Module) string {
	if m.Params < 0 || m.Params > api.MaxParams || len(m.Procs) > api.MaxFuncs || len(m.Nested) > api.MaxFuncs {
		return "a number of parts"
	}
	v := &validator{cells: m.Cells, params: m.Params, procs: m.Procs, nested: len(m.Nested)}
	v.result(m)
	v.commands(m.Body)
	for _, f := range m.Procs {
		w := &validator{cells: f.Cells, params: m.Params, procs: m.Procs, nested: len(m.Nested)}
		w.require(!slices.ContainsFunc(f.Cells, isInfinite), "a cell of a procedure")
		w.require(f.Args >= 0 && f.Args <= len(f.Cells), "Args")
		w.require(len(f.Outs) > 0 && slices.Min(f.Outs) >= 0 && slices.Max(f.Outs) < len(f.Cells), "Outs of a procedure")
		w.commands(f.Body)
		v.require(w.fault == "", w.fault)
	}
	for i, n := range m.Nested {
		w := &validator{cells: n.Cells, nested: i, inQuery: true}
		w.require(n.Params == 0 && len(n.Procs) == 0 && len(n.Nested) == 0 && len(n.Outs) == 1, "a nested module")
		w.require(!slices.ContainsFunc(n.Cells, isInfinite), "a cell of a nested module")
		size, e := types.Size(n.Type)
		w.require(e == api.OK && size <= api.MaxOutcomes, "the values of a nested module")
		w.result(n)
		w.commands(n.Body)
		v.require(w.fault == "", w.fault)
	}
	depth, size, sum := measured(m)
	v.require(depth <= 200 && size <= api.MaxForm && sum <= api.MaxForms, "a limit of forms")
	return v.fault
}

func isInfinite(c api.Cell) bool { return c.Kind != api.TypeBool && c.Kind != api.TypeInt }

func (v *validator) result(m api.Module) {
	for _, c := range v.cells {
		bounded := c.Kind == api.TypeInt && -api.MaxInt <= c.Low && c.Low <= c.High && c.High <= api.MaxInt
		v.require(bounded || slices.Contains([]api.Cell{{Kind: api.TypeBool, High: 1}, {Kind: api.TypeNat}, {Kind: api.TypeReal}}, c), "a cell")
	}
	v.require(len(v.cells) <= api.MaxCells, "the number of cells")
	cells, e := types.Cells(m.Type)
	v.require(e == api.OK && v.areCells(m.Outs) && slices.Equal(each(m.Outs, v.cell), cells), "Outs or Type")
}

// cell returns a cell, or none if there is no such cell.
func (v *validator) cell(i int) api.Cell {
	if i < 0 || i >= len(v.cells) {
		return api.Cell{}
	}
	return v.cells[i]
}

// areCells reports whether l are different indices of cells.
func (v *validator) areCells(l []int) bool {
	sorted := slices.Sorted(slices.Values(l))
	return len(slices.Compact(sorted)) == len(l) && !slices.ContainsFunc(l, func(i int) bool { return i < 0 || i >= len(v.cells) })
}

// form examines a form and reports whether it is real and whether a variable occurs in it.
func (v *validator) form(f api.Form) (isReal, named bool) {
	arguments := map[int]int{api.FoInt: 0, api.FoRat: 0, api.FoVar: 0, api.FoNot: 1, api.FoCond: 3}
	n, special := arguments[f.Op]
	if !special {
		n = 2
	}
	v.require(f.Op >= api.FoInt && f.Op <= api.FoCond && len(f.Args) == n, "an operator")
	v.require(f.Int == 0 || f.Op == api.FoInt || f.Op == api.FoVar, "Int")
	v.require(show(f.Rat) == show(api.Rat{}) || f.Op == api.FoRat, "Rat")
	var reals []bool
	var names []bool
	for _, arg := range f.Args {
		isReal, named := v.form(arg)
		reals, names = append(reals, isReal), append(names, named)
	}
	isReal, named = slices.Contains(reals, true), slices.Contains(names, true)
	switch f.Op {
	case api.FoRat:
		return true, false
	case api.FoVar:
		v.require(v.cell(f.Int).Kind != 0, "a variable")
		return v.cell(f.Int).Kind == api.TypeReal, true
	case api.FoNot, api.FoAnd, api.FoOr, api.FoEq, api.FoCond:
		v.require(!isReal, "a real argument")
		return false, named
	case api.FoLt, api.FoLe:
		return false, named
	case api.FoMul:
		v.require(!isReal || slices.Contains(names, false), "a real product")
	}
	return isReal, named
}

// finite examines a form that must not be real.
func (v *validator) finite(f api.Form) {
	isReal, _ := v.form(f)
	v.require(!isReal, "a real form")
}

func (v *validator) commands(l []api.Cmd) {
	for _, c := range l {
		v.command(c)
		rest := c
		switch c.Kind {
		case api.CmdSet:
			rest.Outs, rest.Args = nil, nil
		case api.CmdDraw:
			rest.Var, rest.Dist = 0, api.Dist{}
		case api.CmdIf:
			rest.Form, rest.Then, rest.Else = api.Form{}, nil, nil
		case api.CmdObserve:
			rest.Form = api.Form{}
		case api.CmdWhile:
			rest.Form, rest.Then = api.Form{}, nil
		case api.CmdCall:
			rest.Var, rest.Args, rest.Outs = 0, nil, nil
		}
		v.require(show(rest) == show(api.Cmd{Kind: c.Kind}), "a field that is not used")
		v.commands(c.Then)
		v.commands(c.Else)
	}
}

func (v *validator) command(c api.Cmd) {
	switch c.Kind {
	case api.CmdSet:
		v.require(len(c.Outs) == len(c.Args) && len(c.Outs) > 0 && v.areCells(c.Outs), "an assignment")
		for i, f := range c.Args {
			isReal, _ := v.form(f)
			v.require(!isReal || v.cell(c.Outs[i]).Kind == api.TypeReal, "a real value")
		}
	case api.CmdDraw:
		v.dist(c.Dist, v.cell(c.Var).Kind)
	case api.CmdIf, api.CmdObserve:
		v.finite(c.Form)
	case api.CmdWhile:
		v.require(!v.inQuery, "a loop in a query")
		v.finite(c.Form)
	case api.CmdCall:
		v.require(!v.inQuery && c.Var >= 0 && c.Var < len(v.procs), "a call")
		p := v.procs[c.Var]
		v.require(len(c.Args) == p.Args && len(c.Outs) == len(p.Outs) && v.areCells(c.Outs), "the values of a call")
		v.require(!slices.ContainsFunc(c.Outs, func(i int) bool { return v.cell(i).Kind == api.TypeReal }), "a real result")
		for _, f := range c.Args {
			v.finite(f)
		}
	default:
		v.require(false, "a kind of a command")
	}
}

// dist examines the distribution of a cell of this kind.
func (v *validator) dist(d api.Dist, kind int) {
	rest := d
	switch d.Kind {
	case api.DistTable:
		v.require(kind != 0 && kind != api.TypeReal, "the cell of a table")
		v.weights(d)
		rest.Low, rest.Weights = 0, nil
	case api.DistGeometric:
		v.require(kind == api.TypeNat && rational.Sign(d.From) >= 0 && rational.Cmp(d.From, rational.Int(1)) < 0, "a geometric distribution")
		rest.From = api.Rat{}
	case api.DistInterval:
		v.require(kind == api.TypeReal && rational.Cmp(d.From, d.To) < 0, "an interval")
		rest.From, rest.To = api.Rat{}, api.Rat{}
	case api.DistBeta:
		v.require(kind == api.TypeReal && min(d.Low, d.High) >= 1 && max(d.Low, d.High) <= api.MaxBeta, "a beta density")
		rest.Low, rest.High = 0, 0
	case api.DistNested:
		v.require(kind != 0 && kind != api.TypeReal && d.Low >= 0 && d.Low < v.nested, "a nested distribution")
		rest.Low = 0
	}
	v.require(d.Kind >= api.DistTable && d.Kind <= api.DistNested && show(rest) == show(api.Dist{Kind: d.Kind}), "a field of a distribution")
}

func (v *validator) weights(d api.Dist) {
	n := len(d.Weights)
	v.require(n >= 1 && n <= api.MaxOutcomes && d.Low >= -api.MaxInt && d.Low+n-1 <= api.MaxInt, "the outcomes of a table")
	var sum api.Poly
	for _, w := range d.Weights {
		normal, e := polynomial.Norm(w)
		v.require(e == api.OK, "a weight")
		for _, t := range normal {
			v.require(slices.Max(t.Mono[:]) <= api.MaxWeight && slices.Max(t.Mono[v.params:]) == 0, "an exponent of a weight")
		}
		v.require(len(normal) == 0 || normal[0].Mono != api.Mono{} || !normal[0].Coef.Neg, "a negative weight")
		sum, _ = polynomial.Add(sum, normal)
	}
	v.require(polynomial.Equal(sum, polynomial.Const(rational.Int(1))), "the sum of the weights")
}
