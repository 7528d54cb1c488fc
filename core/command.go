package core

import (
	"slices"

	"exactppl/api"
)

// hasUnused reports whether c has a field that is not zero and that its kind does not use. Sites are not examined.
func hasUnused(c api.Cmd) bool {
	switch c.Kind {
	case api.CmdIf:
		c.Else = nil
		fallthrough
	case api.CmdWhile:
		c.Then = nil
		fallthrough
	case api.CmdObserve:
		c.Form = api.Form{}
	case api.CmdCall:
		c.Var = 0
		fallthrough
	case api.CmdSet:
		c.Args, c.Outs = nil, nil
	case api.CmdDraw:
		c.Var, c.Dist = 0, api.Dist{}
	}
	return c.Var != 0 || !isZeroForm(c.Form) || !isZeroDist(c.Dist) || len(c.Then)+len(c.Else)+len(c.Args)+len(c.Outs) > 0
}

func isZeroForm(f api.Form) bool {
	return f.Op == 0 && f.Int == 0 && isZeroRat(f.Rat) && len(f.Args) == 0
}

func isZeroDist(d api.Dist) bool {
	return d.Kind == 0 && d.Low == 0 && d.High == 0 && len(d.Weights) == 0 && isZeroRat(d.From) && isZeroRat(d.To)
}

// isZeroRat reports whether a field is zero, which is more than that it denotes 0.
func isZeroRat(r api.Rat) bool { return !r.Neg && len(r.Num)+len(r.Den) == 0 }

// isCommand reports whether c is well-formed. Fields that its kind does not use and the commands in it are not examined.
func (s scope) isCommand(c *api.Cmd) bool {
	switch c.Kind {
	case api.CmdSet:
		return s.isSet(c)
	case api.CmdDraw:
		return isIndex(c.Var, len(s.cells)) && s.isDist(c.Dist) && suits(c.Dist.Kind, s.cells[c.Var].Kind)
	case api.CmdCall: // a nested module has no procedures
		return s.isCall(c)
	case api.CmdCut:
		return !s.isNested
	case api.CmdWhile:
		if s.isNested {
			return false
		}
		fallthrough
	case api.CmdIf, api.CmdObserve:
		return s.arePlain([]api.Form{c.Form})
	}
	return false
}

// isSet examines an assignment.
func (s scope) isSet(c *api.Cmd) bool {
	if len(c.Args) == 0 || len(c.Args) != len(c.Outs) || !s.areTargets(c.Outs) {
		return false
	}
	for i, out := range c.Outs {
		if isReal, ok := s.examine(&c.Args[i]); !ok || isReal && !s.isReal(out) {
			return false
		}
	}
	return true
}

// isCall examines a call. The procedure need not be well-formed.
func (s scope) isCall(c *api.Cmd) bool {
	if !isIndex(c.Var, len(s.procs)) {
		return false
	}
	p := s.procs[c.Var]
	return len(c.Args) == p.Args && s.arePlain(c.Args) && len(c.Outs) == len(p.Outs) && s.areTargets(c.Outs) && !slices.ContainsFunc(c.Outs, s.isReal)
}
