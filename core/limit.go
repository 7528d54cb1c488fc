package core

import (
	"slices"

	"exactppl/api"
)

// extent is what the blocks of a module take of the limits: the number of their commands, and the sizes of their forms together.
type extent struct{ commands, forms int }

// exceeds reports whether m exceeds a limit. Since all of them have the same error, it looks no further where one is exceeded; the rest may be very large.
func exceeds(m api.Module) bool {
	var all extent
	return slices.ContainsFunc(blocks(m), all.exceedsWith)
}

// exceedsWith adds a block and reports whether a limit is exceeded.
func (x *extent) exceedsWith(b block) bool {
	if len(b.cells) > api.MaxCells {
		return true
	}
	for level, c := range commands(b.body, maxLevels+1) {
		x.commands++
		if level > maxLevels || x.commands > api.MaxCommands || x.exceedsWithForms(c) {
			return true
		}
	}
	return false
}

// exceedsWithForms adds the forms of a command and reports whether a limit is exceeded. A Form that the command does not use is limited, too, but not added.
func (x *extent) exceedsWithForms(c *api.Cmd) bool {
	size := sizeOf(&c.Form)
	if size > api.MaxForm {
		return true
	}
	if c.Kind == api.CmdIf || c.Kind == api.CmdObserve || c.Kind == api.CmdWhile {
		x.forms += size
	}
	for i := range c.Args {
		size = sizeOf(&c.Args[i])
		x.forms += size
		if size > api.MaxForm || x.forms > api.MaxForms {
			return true
		}
	}
	return x.forms > api.MaxForms
}

// sizeOf returns the size of f, or a number greater than MaxForm if its size or its depth is too large.
func sizeOf(f *api.Form) int {
	size := 0
	for level := range parts(f, maxLevels+1) {
		size++
		if size > api.MaxForm || level > maxLevels {
			return api.MaxForm + 1
		}
	}
	return size
}
