package checker

import (
	"slices"

	"exactppl/api"
	"exactppl/types"
)

// The kinds of names. No name has the kind inProgram, which tells that no function or query is examined.
const (
	inProgram = iota
	parameter
	function
	query
	variable
)

// entity is what a name stands for.
type entity struct {
	kind  int
	index int      // of a function or a query
	of    api.Type // the type of a variable
}

// checker examines a program.
type checker struct {
	whole  api.Program
	names  map[string]entity // the scope of the block that is examined
	at     entity            // the function or the query that is examined
	info   api.Info
	calls  [api.MaxFuncs][api.MaxFuncs]bool // which function calls which one
	occurs [api.MaxParams]bool              // whether a parameter occurs in a probability
}

// declare adds a name to the scope.
func (c *checker) declare(name string, x entity) {
	_, taken := c.names[name]
	require(!taken, api.ErrName)
	c.names[name] = x
}

// find returns what the name stands for, which must be of this kind.
func (c *checker) find(name string, kind int) entity {
	x := c.names[name]
	require(x.kind == kind, api.ErrName)
	return x
}

// typeOf returns the type of a variable of the block.
func (c *checker) typeOf(name string) api.Type { return c.find(name, variable).of }

func (c *checker) program() {
	p := c.whole
	require(len(p.Params) <= api.MaxParams, api.ErrLimit)
	for _, name := range p.Params {
		c.declare(name, entity{kind: parameter})
	}
	require(len(p.Funcs) <= api.MaxFuncs && len(p.Queries) <= api.MaxFuncs, api.ErrLimit)
	for i, f := range p.Funcs {
		c.declare(f.Name, entity{kind: function, index: i})
	}
	for i, q := range p.Queries {
		c.declare(q.Name, entity{kind: query, index: i})
	}
	for _, f := range p.Funcs {
		require(len(f.Args) <= api.MaxElems, api.ErrLimit)
		c.block(c.names[f.Name], f)
	}
	for _, q := range p.Queries {
		require(hasOutcomes(c.block(c.names[q.Name], q)), api.ErrClass)
	}
	c.block(entity{kind: inProgram}, api.Func{Vars: p.Vars, Body: p.Body, Result: p.Result})
}

// block examines the block of f and returns the type of its result.
func (c *checker) block(at entity, f api.Func) api.Type {
	c.at = at
	declared := variablesOf(f)
	c.variables(declared)
	c.statements(f.Body)
	result := c.typeOf(f.Result)
	for _, d := range declared {
		delete(c.names, d.Name)
	}
	return result
}

// variablesOf returns the variables of the block of f.
func variablesOf(f api.Func) []api.Decl { return slices.Concat(f.Args, f.Vars) }

func (c *checker) variables(l []api.Decl) {
	width := 0
	for _, d := range l {
		c.declare(d.Name, entity{kind: variable, of: d.Type})
		class, e := types.Class(d.Type)
		require(e == api.OK, e)
		c.admit(class)
		cells, _ := types.Cells(d.Type)
		width += len(cells)
	}
	require(width <= api.MaxLocals, api.ErrLimit)
}

// admit examines the class of a variable. Only the program may have others than finite ones, all of the same class.
func (c *checker) admit(class int) {
	if class == api.ClassFinite {
		return
	}
	first := c.info.Class == api.ClassFinite
	require(c.at.kind == inProgram && (first || c.info.Class == class), api.ErrClass)
	c.info.Class = class
}

// hasOutcomes reports whether t is the type of a result of a query.
func hasOutcomes(t api.Type) bool {
	n, e := types.Size(t)
	return e == api.OK && n <= api.MaxOutcomes && (t.Kind == api.TypeBool || t.Kind == api.TypeInt)
}

// resultOf returns the type of the result of f, or false if f has no such variable.
func resultOf(f api.Func) (api.Type, bool) {
	for _, d := range variablesOf(f) {
		if d.Name == f.Result {
			return d.Type, true
		}
	}
	return api.Type{}, false
}
