package lower

import (
	"slices"

	"exactppl/api"
	"exactppl/types"
)

// place is where a variable is stored.
type place struct {
	of    api.Type
	cells []int // their indices
}

// block is the program, a function or a query.
type block struct {
	whole  api.Program
	source api.Func
	places map[string]place // of the variables
	cells  []api.Cell       // those of the variables, and then one for each weight statement
	locals int              // the number of cells of the variables
}

func newBlock(whole api.Program, f api.Func) *block {
	b := &block{whole: whole, source: f, places: map[string]place{}}
	for _, d := range slices.Concat(f.Args, f.Vars) {
		b.declare(d)
	}
	b.locals = len(b.cells)
	truth := api.Cell{Kind: api.TypeBool, High: 1}
	b.cells = append(b.cells, slices.Repeat([]api.Cell{truth}, weights(f.Body))...)
	return b
}

func newBlocks(whole api.Program, l []api.Func) []*block {
	var blocks []*block
	for _, f := range l {
		blocks = append(blocks, newBlock(whole, f))
	}
	return blocks
}

// declare adds a variable, whose type is valid.
func (b *block) declare(d api.Decl) {
	p := place{of: d.Type}
	cells, _ := types.Cells(d.Type)
	for _, c := range cells {
		p.cells = append(p.cells, len(b.cells))
		b.cells = append(b.cells, c)
	}
	b.places[d.Name] = p
}

// weights returns the number of weight statements.
func weights(l []api.Stmt) int {
	n := 0
	for _, s := range l {
		if s.Kind == api.StWeight {
			n++
		}
		n += weights(s.Then) + weights(s.Else)
	}
	return n
}

// result returns the place of the result.
func (b *block) result() place { return b.places[b.source.Result] }

// outs returns the cells of the result in new memory.
func (b *block) outs() []int { return slices.Clone(b.result().cells) }

// module returns the block as a module without parameters, procedures and nested modules.
func (b *block) module() api.Module {
	return api.Module{Cells: b.cells, Body: b.body(), Outs: b.outs(), Type: copyOfType(b.result().of)}
}

// procedure returns the block as a procedure.
func (b *block) procedure() api.Proc {
	args := 0
	for _, d := range b.source.Args {
		args += len(b.places[d.Name].cells)
	}
	return api.Proc{Cells: b.cells, Args: args, Body: b.body(), Outs: b.outs()}
}

// find returns the index of the function or query with this name, which exists.
func find(l []api.Func, name string) int {
	return slices.IndexFunc(l, func(f api.Func) bool { return f.Name == name })
}
