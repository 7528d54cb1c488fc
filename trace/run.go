package trace

import (
	"slices"

	"exactppl/api"
	"exactppl/core"
)

// run is a run that is being executed: its trace so far, without the mass, and what is left of the commands.
type run struct {
	api.Trace
	cells []api.Cell
	left  rest
}

// rest is a list of commands, and what follows the command in which they stand.
type rest struct {
	commands []api.Cmd
	outer    *rest
}

// start returns a run before its first command.
func (p program) start() run {
	r := run{cells: p.cells, left: rest{commands: p.body}}
	r.State = make([]int, len(p.cells))
	for i := range r.State {
		r.assign(i, 0)
	}
	return r
}

// fork returns a run that goes on independently of r.
func (r run) fork() run {
	r.Choices, r.State = slices.Clone(r.Choices), slices.Clone(r.State)
	return r
}

// next takes off the first command, or returns nil if there is none.
func (l *rest) next() *api.Cmd {
	for len(l.commands) == 0 {
		if l.outer == nil {
			return nil
		}
		*l = *l.outer
	}
	c := &l.commands[0]
	l.commands = l.commands[1:]
	return c
}

// enter puts the commands of a branch before the others.
func (l *rest) enter(branch []api.Cmd) {
	outer := *l
	*l = rest{branch, &outer}
}

// advance executes the commands up to the next draw, which it returns, or up to the end of the run.
func (r *run) advance() *api.Cmd {
	for r.End == 0 {
		c := r.left.next()
		if c == nil {
			r.End = api.EndAccepted
			return nil
		}
		switch c.Kind {
		case api.CmdDraw:
			return c
		case api.CmdSet:
			r.set(c.Outs, c.Args)
		case api.CmdIf:
			if r.value(c.Form) != 0 {
				r.left.enter(c.Then)
			} else {
				r.left.enter(c.Else)
			}
		case api.CmdObserve:
			if r.value(c.Form) == 0 {
				r.End = api.EndRejected
			}
		case api.CmdCut:
			r.End = api.EndCut
		}
	}
	return nil
}

// choose gives a draw an outcome.
func (r *run) choose(c *api.Cmd, outcome int) {
	r.Choices = append(r.Choices, api.Choice{Site: c.Site, Outcome: outcome})
	r.assign(c.Var, c.Dist.Low+outcome)
}

// set sets variables, all at once.
func (r *run) set(outs []int, args []api.Form) {
	values := make([]int, len(args))
	for i, f := range args {
		values[i] = r.value(f)
	}
	for i, out := range outs {
		r.assign(out, values[i])
	}
}

// value returns the value of a form, for which core.Eval has no error in an enumerable module.
func (r *run) value(f api.Form) int {
	n, _ := core.Eval(f, r.State)
	return n
}

// assign sets a variable to the number of its range that is nearest to n.
func (r *run) assign(i, n int) { r.State[i] = core.Clamp(r.cells[i], n) }
