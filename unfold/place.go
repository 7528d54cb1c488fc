package unfold

import (
	"slices"

	"exactppl/api"
)

// place is where commands are unfolded: the body of the module, or a frame.
type place struct {
	*unfolding
	first, depth int // the cell for which the variable 0 stands, and how many calls the place is in
}

// each returns what change returns for each element of l.
func each[A, B any](l []A, change func(A) B) []B {
	var changed []B
	for _, x := range l {
		changed = append(changed, change(x))
	}
	return changed
}

// commands returns the commands that replace those of l.
func (p place) commands(l []api.Cmd) []api.Cmd { return slices.Concat(each(l, p.command)...) }

// command returns the commands that replace c.
func (p place) command(c api.Cmd) []api.Cmd {
	p.steps++
	if p.isTooLarge() {
		return nil
	}
	switch c.Kind {
	case api.CmdSet:
		c.Outs, c.Args = each(c.Outs, p.cell), each(c.Args, p.form)
	case api.CmdDraw:
		p.draws++
		c.Var = p.cell(c.Var)
	case api.CmdIf:
		c.Then, c.Else = p.commands(c.Then), p.commands(c.Else)
		fallthrough
	case api.CmdObserve:
		c.Form = p.form(c.Form)
	case api.CmdWhile:
		c = p.loop(c, p.times)
	case api.CmdCall:
		return p.call(c)
	}
	return []api.Cmd{c}
}

// loop returns the loop c with j executions of its body.
func (p place) loop(c api.Cmd, j int) api.Cmd {
	once := api.Cmd{Kind: api.CmdIf, Form: p.form(c.Form), Then: []api.Cmd{{Kind: api.CmdCut}}}
	if j > 0 {
		once.Then = append(p.commands(c.Then), p.loop(c, j-1))
	}
	return once
}

// call returns the commands that replace the call c: they set all cells of the frame, so that nothing is left of an earlier call.
func (p place) call(c api.Cmd) []api.Cmd {
	if p.depth == p.times {
		return []api.Cmd{{Kind: api.CmdCut}}
	}
	callee := p.procs[c.Var]
	inner := place{p.unfolding, p.frame(frame{c.Var, p.depth + 1}), p.depth + 1}
	var cells []int
	for i := range callee.Cells {
		cells = append(cells, inner.cell(i))
	}
	zeros := slices.Repeat([]api.Form{{Op: api.FoInt}}, len(cells)-callee.Args)
	return slices.Concat(
		set(cells[:callee.Args], each(c.Args, p.form)),
		set(cells[callee.Args:], zeros),
		inner.commands(callee.Body),
		set(each(c.Outs, p.cell), each(callee.Outs, inner.variable)),
	)
}

// set returns an assignment, or nothing if there is nothing to set.
func set(outs []int, args []api.Form) []api.Cmd {
	if len(outs) == 0 {
		return nil
	}
	return []api.Cmd{{Kind: api.CmdSet, Outs: outs, Args: args}}
}

// cell returns the cell for which the variable i stands.
func (p place) cell(i int) int { return p.first + i }

func (p place) variable(i int) api.Form { return api.Form{Op: api.FoVar, Int: p.cell(i)} }

// form returns f with the cells for which its variables stand.
func (p place) form(f api.Form) api.Form {
	p.operators++
	if f.Op == api.FoVar {
		return p.variable(f.Int)
	}
	f.Args = each(f.Args, p.form)
	return f
}
