package checker

import (
	"exactppl/api"
	"exactppl/types"
)

func (c *checker) statements(l []api.Stmt) {
	for _, s := range l {
		c.statement(s)
		c.statements(s.Then)
		c.statements(s.Else)
	}
}

// statement examines s without its bodies.
func (c *checker) statement(s api.Stmt) {
	switch s.Kind {
	case api.StAssign:
		c.assign(c.typeOf(s.Name), s.Expr)
	case api.StDraw:
		c.draw(c.typeOf(s.Name), s.Draw)
	case api.StCall:
		c.call(s)
	case api.StIf:
		c.condition(s.Expr)
	case api.StWhile:
		c.condition(s.Expr)
		require(c.at.kind != query, api.ErrClass)
		c.info.Loops = true
	case api.StRepeat:
		require(s.Int <= api.MaxRepeat, api.ErrLimit)
	case api.StObserve:
		c.condition(s.Expr)
		c.info.Conditions++
	case api.StWeight:
		c.use(c.probabilities(s.Expr))
		c.info.Conditions++
	}
}

// assign examines an expression whose value becomes that of a variable of the type t.
func (c *checker) assign(t api.Type, e api.Expr) {
	requireType(c.expr(e).isAssignable(t))
}

// condition examines an expression that must be bool.
func (c *checker) condition(e api.Expr) {
	requireType(c.expr(e).kind == api.TypeBool)
}

func (c *checker) call(s api.Stmt) {
	target := c.typeOf(s.Name)
	require(c.at.kind != query, api.ErrClass)
	callee := c.find(s.Func, function)
	f := c.whole.Funcs[callee.index]
	requireType(len(s.Args) == len(f.Args))
	for i, e := range s.Args {
		c.assign(f.Args[i].Type, e)
	}
	result, found := resultOf(f)
	requireType(!found || types.Equal(result, target))
	if c.at.kind == function {
		c.calls[c.at.index][callee.index] = true
	}
}
