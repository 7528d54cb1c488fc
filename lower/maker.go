package lower

import (
	"slices"

	"exactppl/api"
)

// maker makes what the expressions of a block become: forms, or what is known of them without making them.
type maker[T any] struct {
	*block
	leaf      func(f api.Form) T        // a form without arguments
	node      func(op int, args ...T) T // a form with these arguments
	operators []operator[T]
}

func newMaker[T any](b *block, leaf func(f api.Form) T, node func(op int, args ...T) T) *maker[T] {
	return &maker[T]{b, leaf, node, operators[T]()}
}

func (m *maker[T]) constant(n int) T { return m.leaf(api.Form{Op: api.FoInt, Int: n}) }

// conjunction returns the form that is true if all of these are.
func (m *maker[T]) conjunction(first T, others ...T) T {
	for _, f := range others {
		first = m.node(api.FoAnd, first, f)
	}
	return first
}

// lowered is what an expression becomes.
type lowered[T any] struct {
	kind     int          // TypeTuple, TypeList, or another one for bool and numbers
	form     T            // of bool or a number, or the length of a list
	elements []lowered[T] // of a tuple or a list
}

// expr returns what e becomes.
func (m *maker[T]) expr(e api.Expr) lowered[T] {
	var args []lowered[T]
	for _, arg := range e.Args {
		args = append(args, m.expr(arg))
	}
	o := m.operators[e.Op]
	if o.lower != nil {
		return o.lower(m, e, args)
	}
	var forms []T
	for _, arg := range args {
		forms = append(forms, arg.form)
	}
	return lowered[T]{form: m.node(o.form, forms...)}
}

// stored returns what a variable of the type t becomes, given the forms of its cells one after the other.
func stored[T any](t api.Type, next func() T) lowered[T] {
	l := lowered[T]{kind: t.Kind}
	if t.Kind != api.TypeTuple {
		l.form = next()
	}
	elements := t.Elems
	if t.Kind == api.TypeList {
		elements = slices.Repeat(elements, t.Max)
	}
	for _, element := range elements {
		l.elements = append(l.elements, stored(element, next))
	}
	return l
}

// fitted returns the forms of l for the type t.
func (m *maker[T]) fitted(l lowered[T], t api.Type) []T {
	if t.Kind == api.TypeTuple {
		var forms []T
		for i, element := range l.elements {
			forms = append(forms, m.fitted(element, t.Elems[i])...)
		}
		return forms
	}
	forms := []T{l.form}
	for k := range t.Max {
		f := m.constant(0)
		if k < len(l.elements) {
			f = m.node(api.FoCond, m.node(api.FoLt, m.constant(k), l.form), l.elements[k].form, f)
		}
		forms = append(forms, f)
	}
	return forms
}

// forms returns the forms of the command that s becomes, without those of its bodies. A weight statement becomes commands of another kind.
func (m *maker[T]) forms(s api.Stmt) []T {
	switch s.Kind {
	case api.StAssign:
		return m.fitted(m.expr(s.Expr), m.places[s.Name].of)
	case api.StCall:
		var forms []T
		for i, d := range m.whole.Funcs[find(m.whole.Funcs, s.Func)].Args {
			forms = append(forms, m.fitted(m.expr(s.Args[i]), d.Type)...)
		}
		return forms
	case api.StIf, api.StWhile, api.StObserve:
		return []T{m.expr(s.Expr).form}
	}
	return nil
}
