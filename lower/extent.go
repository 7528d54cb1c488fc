package lower

import "exactppl/api"

// maxFormDepth is the greatest depth of a form. No limit of api has this number.
const maxFormDepth = 200

// extent is how large a form is. Every size that is too large is the same one.
type extent struct{ size, depth int }

func leafExtent(api.Form) extent { return extent{1, 1} }

func nodeExtent(_ int, args ...extent) extent {
	x := extent{size: 1}
	for _, arg := range args {
		x.size = min(x.size+arg.size, api.MaxForm+1)
		x.depth = max(x.depth, arg.depth)
	}
	x.depth++
	return x
}

// cost is what commands take of the limits. Every number that is too large is the same one.
type cost struct {
	commands, forms int  // the number of commands, and the sizes of their forms together
	tooLarge        bool // whether there is a form that is too large
}

func (x extent) cost() cost {
	return cost{forms: x.size, tooLarge: x.size > api.MaxForm || x.depth > maxFormDepth}
}

// capped returns c with the numbers that are too large made the same.
func (c cost) capped() cost {
	c.commands, c.forms = min(c.commands, api.MaxCommands+1), min(c.forms, api.MaxForms+1)
	return c
}

func (c cost) plus(d cost) cost {
	return cost{c.commands + d.commands, c.forms + d.forms, c.tooLarge || d.tooLarge}.capped()
}

func (c cost) times(n int) cost {
	return cost{n * c.commands, n * c.forms, n > 0 && c.tooLarge}.capped()
}

func (c cost) exceeds() bool {
	return c.commands > api.MaxCommands || c.forms > api.MaxForms || c.tooLarge
}

// meter finds the cost of the commands of a block.
type meter struct{ *maker[extent] }

// cost returns the cost of the commands of the block.
func (b *block) cost() cost {
	return meter{newMaker(b, leafExtent, nodeExtent)}.body(b.source.Body)
}

func (m meter) body(l []api.Stmt) cost {
	var sum cost
	for _, s := range l {
		sum = sum.plus(m.statement(s))
	}
	return sum
}

func (m meter) statement(s api.Stmt) cost {
	inner := m.body(s.Then).plus(m.body(s.Else))
	switch s.Kind {
	case api.StRepeat:
		return inner.times(s.Int)
	case api.StWeight:
		return cost{commands: 2, forms: 1}
	}
	sum := inner.plus(cost{commands: 1})
	for _, x := range m.forms(s) {
		sum = sum.plus(x.cost())
	}
	return sum
}
