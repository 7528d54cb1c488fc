package core

import (
	"iter"

	"exactppl/api"
)

// maxLevels is the greatest depth of a form and of a list of commands. No limit of api has this number.
const maxLevels = 200

// parts ranges over f and the forms in it with their levels, down to the level deepest.
func parts(f *api.Form, deepest int) iter.Seq2[int, *api.Form] {
	return func(yield func(int, *api.Form) bool) { visitPart(f, 1, deepest, yield) }
}

// visitPart reports whether to go on.
func visitPart(f *api.Form, level, deepest int, yield func(int, *api.Form) bool) bool {
	if level > deepest {
		return true
	}
	if !yield(level, f) {
		return false
	}
	for i := range f.Args {
		if !visitPart(&f.Args[i], level+1, deepest, yield) {
			return false
		}
	}
	return true
}

// variables ranges over the variables of f, each one as often as it occurs.
func variables(f *api.Form) iter.Seq[int] {
	return func(yield func(int) bool) {
		for _, part := range parts(f, maxLevels) {
			if part.Op == api.FoVar && !yield(part.Int) {
				return
			}
		}
	}
}

// commands ranges over the commands of l and those in them with their levels, down to the level deepest, in the order of the text.
func commands(l []api.Cmd, deepest int) iter.Seq2[int, *api.Cmd] {
	return func(yield func(int, *api.Cmd) bool) { visitCommands(l, 1, deepest, yield) }
}

// visitCommands reports whether to go on.
func visitCommands(l []api.Cmd, level, deepest int, yield func(int, *api.Cmd) bool) bool {
	if level > deepest {
		return true
	}
	for i := range l {
		c := &l[i]
		if !yield(level, c) || !visitCommands(c.Then, level+1, deepest, yield) || !visitCommands(c.Else, level+1, deepest, yield) {
			return false
		}
	}
	return true
}

// draws ranges over the draws of l, also inside other commands, in the order of the text.
func draws(l []api.Cmd) iter.Seq[*api.Cmd] {
	return func(yield func(*api.Cmd) bool) {
		for _, c := range commands(l, maxLevels) {
			if c.Kind == api.CmdDraw && !yield(c) {
				return
			}
		}
	}
}

// block is the part of a module that has cells and commands: the module itself, a procedure, or a nested module.
type block struct {
	cells []api.Cell
	body  []api.Cmd
}

// blocks returns the blocks of m. Nested modules inside nested modules are none of them.
func blocks(m api.Module) []block {
	l := []block{{m.Cells, m.Body}}
	for _, p := range m.Procs {
		l = append(l, block{p.Cells, p.Body})
	}
	for _, n := range m.Nested {
		l = append(l, block{n.Cells, n.Body})
	}
	return l
}
