// Package execution executes enumerable modules, draw by draw. Layers 16 and 17 compute with it; they choose the outcomes of the draws.
package execution

import (
	"slices"

	"exactppl/api"
	"exactppl/core"
)

// Program is an enumerable module, with the distributions of its draws by their sites; their weights are in normal form.
type Program struct {
	Dists []api.Dist
	cells []api.Cell
	body  []api.Cmd
}

// Enumerable returns m as a program, or the error of core.Validate, or ErrClass if m is not enumerable.
func Enumerable(m api.Module) (Program, api.Errno) {
	dists, e := core.Sites(m)
	switch {
	case e != api.OK:
		return Program{}, e
	case slices.ContainsFunc(m.Cells, isReal), slices.ContainsFunc(dists, isNoTable), haveFraction(m.Body):
		return Program{}, api.ErrClass
	}
	return Program{dists, m.Cells, m.Body}, api.OK
}

func isReal(c api.Cell) bool { return c.Kind == api.TypeReal }

func isNoTable(d api.Dist) bool { return d.Kind != api.DistTable }

// haveFraction reports whether FoRat occurs in the forms of l, also inside other commands.
func haveFraction(l []api.Cmd) bool {
	return slices.ContainsFunc(l, func(c api.Cmd) bool {
		return hasFraction(c.Form) || slices.ContainsFunc(c.Args, hasFraction) || haveFraction(c.Then) || haveFraction(c.Else)
	})
}

func hasFraction(f api.Form) bool {
	return f.Op == api.FoRat || slices.ContainsFunc(f.Args, hasFraction)
}
