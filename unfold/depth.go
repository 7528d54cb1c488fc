package unfold

import (
	"slices"

	"exactppl/api"
	"exactppl/core"
)

// Complete reports whether m is straight and contains no cut.
func Complete(m api.Module) bool {
	return core.Straight(m) && !contains(m.Body, func(c api.Cmd) bool { return c.Kind == api.CmdCut })
}

// Depth returns how many calls of m stand in one another, or ErrClass if there is a loop or a procedure that can call itself.
func Depth(m api.Module) (int, api.Errno) {
	if e := core.Validate(m); e != api.OK {
		return 0, e
	}
	if hasCommand(m, func(c api.Cmd) bool { return c.Kind == api.CmdWhile }) {
		return 0, api.ErrClass
	}
	// With as many rounds as there are procedures all depths become right, but a procedure that can call itself becomes deeper in every round.
	depths := make([]int, len(m.Procs))
	for range m.Procs {
		for i, p := range m.Procs {
			depths[i] = depthOf(p.Body, depths)
		}
	}
	if slices.ContainsFunc(depths, func(depth int) bool { return depth >= len(m.Procs) }) {
		return 0, api.ErrClass
	}
	return depthOf(m.Body, depths), api.OK
}

// depthOf returns how many calls of l stand in one another where the procedures have these depths.
func depthOf(l []api.Cmd, depths []int) int {
	deepest := 0
	for _, c := range l {
		deepest = max(deepest, depthOf(c.Then, depths), depthOf(c.Else, depths))
		if c.Kind == api.CmdCall {
			deepest = max(deepest, 1+depths[c.Var])
		}
	}
	return deepest
}
