package core

import (
	"iter"
	"slices"

	"exactppl/api"
)

// ascending returns the numbers of l in ascending order, each one once.
func ascending(l iter.Seq[int]) []int { return slices.Compact(slices.Sorted(l)) }

// Reads returns the variables of f in ascending order.
func Reads(f api.Form) []int { return ascending(variables(&f)) }

// Uses returns the variables in the forms of l in ascending order.
func Uses(l []api.Cmd) []int {
	return ascending(func(yield func(int) bool) {
		for _, c := range commands(l, maxLevels) {
			for _, f := range append(c.Args[:len(c.Args):len(c.Args)], c.Form) {
				for v := range variables(&f) {
					if !yield(v) {
						return
					}
				}
			}
		}
	})
}

// Writes returns the variables that l sets or draws in ascending order.
func Writes(l []api.Cmd) []int {
	var written []int
	for _, c := range commands(l, maxLevels) {
		written = append(written, c.Outs...)
		if c.Kind == api.CmdDraw {
			written = append(written, c.Var)
		}
	}
	return ascending(slices.Values(written))
}

// Count returns the number of commands of l and in them.
func Count(l []api.Cmd) int {
	n := 0
	for range commands(l, maxLevels) {
		n++
	}
	return n
}
