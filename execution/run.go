package execution

import (
	"slices"

	"exactppl/api"
	"exactppl/core"
)

// Run is a run up to the draw Draw, or up to its end if Draw is nil: its trace so far, without the mass. Each choice has its State in new memory.
type Run struct {
	api.Trace
	Draw   *api.Cmd
	cells  []api.Cell
	left   rest
	passed []junction
}

// junction is what a run was at a draw that it has passed.
type junction struct {
	draw  *api.Cmd
	state []int
	left  rest
}

// rest is a list of commands, and what follows the command in which they stand.
type rest struct {
	commands []api.Cmd
	outer    *rest
}

// Start returns a run that has made no choice.
func (p Program) Start() *Run {
	r := &Run{cells: p.cells, left: rest{commands: p.body}}
	r.State = make([]int, len(p.cells))
	for i := range r.State {
		r.assign(i, 0)
	}
	r.advance()
	return r
}

// Choose gives the draw an outcome, which is the index of a weight, and executes what follows up to the next draw.
func (r *Run) Choose(outcome int) {
	c := r.Draw
	r.passed = append(r.passed, junction{c, r.State, r.left})
	r.State = slices.Clone(r.State)
	r.Choices = append(r.Choices, api.Choice{Site: c.Site, Outcome: outcome})
	r.assign(c.Var, c.Dist.Low+outcome)
	r.advance()
}

// Back goes back to the draw behind the first n choices, if there are more of them.
func (r *Run) Back(n int) {
	if n >= len(r.passed) {
		return
	}
	j := r.passed[n]
	r.passed, r.Choices = r.passed[:n], r.Choices[:n]
	r.Draw, r.State, r.left, r.End = j.draw, j.state, j.left, 0
}

// next takes off the first command, or returns nil if there is none.
func (l *rest) next() *api.Cmd {
	for len(l.commands) == 0 {
		if l.outer == nil {
			return nil
		}
		*l = *l.outer
	}
	c := &l.commands[0]
	l.commands = l.commands[1:]
	return c
}

// enter puts the commands of a branch before the others.
func (l *rest) enter(branch []api.Cmd) {
	outer := *l
	*l = rest{branch, &outer}
}

// advance executes the commands up to the next draw, or up to the end of the run.
func (r *Run) advance() {
	r.Draw = nil
	for r.End == 0 {
		c := r.left.next()
		if c == nil {
			r.End = api.EndAccepted
			return
		}
		switch c.Kind {
		case api.CmdDraw:
			r.Draw = c
			return
		case api.CmdSet:
			r.set(c.Outs, c.Args)
		case api.CmdIf:
			if r.value(c.Form) != 0 {
				r.left.enter(c.Then)
			} else {
				r.left.enter(c.Else)
			}
		case api.CmdObserve:
			if r.value(c.Form) == 0 {
				r.End = api.EndRejected
			}
		case api.CmdCut:
			r.End = api.EndCut
		}
	}
}

// set sets variables, all at once.
func (r *Run) set(outs []int, args []api.Form) {
	values := make([]int, len(args))
	for i, f := range args {
		values[i] = r.value(f)
	}
	for i, out := range outs {
		r.assign(out, values[i])
	}
}

// value returns the value of a form, for which core.Eval has no error in an enumerable module.
func (r *Run) value(f api.Form) int {
	n, _ := core.Eval(f, r.State)
	return n
}

// assign sets a variable to the number of its range that is nearest to n.
func (r *Run) assign(i, n int) { r.State[i] = core.Clamp(r.cells[i], n) }
