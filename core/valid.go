package core

import (
	"slices"

	"exactppl/api"
	"exactppl/types"
)

// scope is what the commands and forms of a module, a procedure or a nested module can name.
type scope struct {
	cells    []api.Cell
	params   int
	procs    []api.Proc
	nested   int // the nested modules with a lesser index can be drawn from
	isNested bool
}

// isWellFormed reports whether m, which exceeds no limit, is well-formed.
func isWellFormed(m api.Module) bool {
	if m.Params < 0 || m.Params > api.MaxParams || len(m.Procs) > api.MaxFuncs || len(m.Nested) > api.MaxFuncs {
		return false
	}
	s := scope{cells: m.Cells, params: m.Params, procs: m.Procs, nested: len(m.Nested)}
	if !s.isBlock(m.Body) || !s.hasResult(m) {
		return false
	}
	for _, p := range m.Procs {
		s.cells = p.Cells
		if !s.isProcedure(p) {
			return false
		}
	}
	for i, n := range m.Nested {
		inner := scope{cells: n.Cells, nested: i, isNested: true}
		if !inner.isNestedModule(n) {
			return false
		}
	}
	return true
}

// isProcedure reports whether p, whose cells are those of the scope, is well-formed.
func (s scope) isProcedure(p api.Proc) bool {
	return s.isFinite() && p.Args >= 0 && p.Args <= len(s.cells) && len(p.Outs) > 0 && s.areCells(p.Outs) && s.isBlock(p.Body)
}

// isNestedModule reports whether n, whose cells are those of the scope, is well-formed as a nested module.
func (s scope) isNestedModule(n api.Module) bool {
	if n.Params != 0 || len(n.Procs)+len(n.Nested) > 0 || !s.isFinite() || len(n.Outs) != 1 || !s.hasResult(n) || !s.isBlock(n.Body) {
		return false
	}
	size, _ := types.Size(n.Type) // which is that of a finite cell
	return size <= api.MaxOutcomes
}

// hasResult reports whether the result of m, whose cells are those of the scope, is well-formed.
func (s scope) hasResult(m api.Module) bool {
	cells, e := types.Cells(m.Type)
	return e == api.OK && s.areCells(m.Outs) && slices.EqualFunc(m.Outs, cells, func(i int, c api.Cell) bool { return s.cells[i] == c })
}

// isBlock reports whether the cells of the scope and the commands of l, also those in other commands, are well-formed.
func (s scope) isBlock(l []api.Cmd) bool {
	for _, c := range s.cells {
		if !isCell(c) {
			return false
		}
	}
	for _, c := range commands(l, maxLevels) {
		if hasUnused(*c) || !s.isCommand(c) {
			return false
		}
	}
	return true
}

func isCell(c api.Cell) bool {
	switch c.Kind {
	case api.TypeBool:
		return c.Low == 0 && c.High == 1
	case api.TypeInt:
		return -api.MaxInt <= c.Low && c.Low <= c.High && c.High <= api.MaxInt
	case api.TypeNat, api.TypeReal:
		return c.Low == 0 && c.High == 0
	}
	return false
}

// isFinite reports whether the scope has only cells of TypeBool and TypeInt.
func (s scope) isFinite() bool {
	return !slices.ContainsFunc(s.cells, func(c api.Cell) bool { return c.Kind != api.TypeBool && c.Kind != api.TypeInt })
}

// isIndex reports whether i is the index of one of n things.
func isIndex(i, n int) bool { return i >= 0 && i < n }

// areCells reports whether all elements of l are indices of cells.
func (s scope) areCells(l []int) bool {
	return !slices.ContainsFunc(l, func(i int) bool { return !isIndex(i, len(s.cells)) })
}

// areTargets reports whether the elements of l are different indices of cells.
func (s scope) areTargets(l []int) bool {
	return s.areCells(l) && len(ascending(slices.Values(l))) == len(l)
}

// isReal reports whether the cell i is a real number.
func (s scope) isReal(i int) bool { return s.cells[i].Kind == api.TypeReal }
