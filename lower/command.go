package lower

import (
	"slices"

	"exactppl/api"
)

// writer makes the commands of a block.
type writer struct {
	*maker[api.Form]
	weight int // the cell of the next weight statement
}

func leafForm(f api.Form) api.Form { return f }

func nodeForm(op int, args ...api.Form) api.Form { return api.Form{Op: op, Args: args} }

// body returns the commands of the block. They are copied because parts that occur several times, and repeated commands, are made once only.
func (b *block) body() []api.Cmd {
	w := &writer{newMaker(b, leafForm, nodeForm), b.locals}
	return each(w.commands(b.source.Body), copyOfCmd)
}

func (w *writer) commands(l []api.Stmt) []api.Cmd {
	var commands []api.Cmd
	for _, s := range l {
		switch s.Kind {
		case api.StRepeat:
			commands = append(commands, w.repeated(s)...)
		case api.StWeight:
			commands = append(commands, w.weighted(s)...)
		default:
			commands = append(commands, w.command(s))
		}
	}
	return commands
}

// repeated does not make commands that are repeated 0 times, which can be very many.
func (w *writer) repeated(s api.Stmt) []api.Cmd {
	if s.Int == 0 {
		w.weight += weights(s.Then)
		return nil
	}
	return slices.Repeat(w.commands(s.Then), s.Int)
}

func (w *writer) weighted(s api.Stmt) []api.Cmd {
	cell := w.weight
	w.weight++
	return []api.Cmd{
		{Kind: api.CmdDraw, Var: cell, Dist: flip(w.probability(s.Expr))},
		{Kind: api.CmdObserve, Form: w.leaf(api.Form{Op: api.FoVar, Int: cell})},
	}
}

// command returns the command that a statement of another kind becomes.
func (w *writer) command(s api.Stmt) api.Cmd {
	forms, cells := w.forms(s), w.places[s.Name].cells
	switch s.Kind {
	case api.StAssign:
		return api.Cmd{Kind: api.CmdSet, Args: forms, Outs: cells}
	case api.StDraw:
		return api.Cmd{Kind: api.CmdDraw, Var: cells[0], Dist: w.dist(s.Draw)}
	case api.StCall:
		return api.Cmd{Kind: api.CmdCall, Var: find(w.whole.Funcs, s.Func), Args: forms, Outs: cells}
	case api.StIf:
		return api.Cmd{Kind: api.CmdIf, Form: forms[0], Then: w.commands(s.Then), Else: w.commands(s.Else)}
	case api.StWhile:
		return api.Cmd{Kind: api.CmdWhile, Form: forms[0], Then: w.commands(s.Then)}
	}
	return api.Cmd{Kind: api.CmdObserve, Form: forms[0]}
}
