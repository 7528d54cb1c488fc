package lower

import "exactppl/api"

// operator tells what the expressions with an operator become: one form with the operator form, or what lower returns.
type operator[T any] struct {
	form  int
	lower func(m *maker[T], e api.Expr, args []lowered[T]) lowered[T]
}

func operators[T any]() []operator[T] {
	return []operator[T]{
		api.ExBool:  {lower: (*maker[T]).number},
		api.ExInt:   {lower: (*maker[T]).number},
		api.ExRat:   {lower: (*maker[T]).fraction},
		api.ExName:  {lower: (*maker[T]).name},
		api.ExNot:   {form: api.FoNot},
		api.ExAnd:   {form: api.FoAnd},
		api.ExOr:    {form: api.FoOr},
		api.ExEq:    {lower: (*maker[T]).equal},
		api.ExLt:    {form: api.FoLt},
		api.ExLe:    {form: api.FoLe},
		api.ExNeg:   {lower: (*maker[T]).negated},
		api.ExAdd:   {form: api.FoAdd},
		api.ExSub:   {form: api.FoSub},
		api.ExMul:   {form: api.FoMul},
		api.ExCond:  {lower: (*maker[T]).conditional},
		api.ExTuple: {lower: (*maker[T]).tuple},
		api.ExField: {lower: (*maker[T]).field},
		api.ExList:  {lower: (*maker[T]).list},
		api.ExPush:  {lower: (*maker[T]).push},
		api.ExLen:   {lower: (*maker[T]).length},
		api.ExAt:    {lower: (*maker[T]).at},
	}
}

func (m *maker[T]) number(e api.Expr, _ []lowered[T]) lowered[T] {
	return lowered[T]{form: m.constant(e.Int)}
}

func (m *maker[T]) fraction(e api.Expr, _ []lowered[T]) lowered[T] {
	return lowered[T]{form: m.leaf(api.Form{Op: api.FoRat, Rat: e.Rat})}
}

func (m *maker[T]) name(e api.Expr, _ []lowered[T]) lowered[T] {
	p := m.places[e.Name]
	cells := p.cells
	return stored(p.of, func() T {
		f := m.leaf(api.Form{Op: api.FoVar, Int: cells[0]})
		cells = cells[1:]
		return f
	})
}

func (m *maker[T]) negated(_ api.Expr, args []lowered[T]) lowered[T] {
	return lowered[T]{form: m.node(api.FoSub, m.constant(0), args[0].form)}
}

func (m *maker[T]) equal(_ api.Expr, args []lowered[T]) lowered[T] {
	return lowered[T]{form: m.equality(args[0], args[1])}
}

// equality returns the form that is true if a and b are equal.
func (m *maker[T]) equality(a, b lowered[T]) T {
	switch a.kind {
	case api.TypeTuple:
		var pairs []T
		for i, element := range a.elements {
			pairs = append(pairs, m.equality(element, b.elements[i]))
		}
		return m.conjunction(pairs[0], pairs[1:]...)
	case api.TypeList:
		var pairs []T
		for k := range max(len(a.elements), len(b.elements)) {
			behind := m.node(api.FoLe, a.form, m.constant(k))
			pairs = append(pairs, m.node(api.FoOr, behind, m.equality(m.element(a, k), m.element(b, k))))
		}
		return m.conjunction(m.node(api.FoEq, a.form, b.form), pairs...)
	}
	return m.node(api.FoEq, a.form, b.form)
}

// element returns the element k of l, which is 0 beyond the capacity of a list.
func (m *maker[T]) element(l lowered[T], k int) lowered[T] {
	if k < len(l.elements) {
		return l.elements[k]
	}
	return lowered[T]{form: m.constant(0)}
}

func (m *maker[T]) conditional(_ api.Expr, args []lowered[T]) lowered[T] {
	return m.choice(args[0].form, args[1], args[2])
}

// choice returns a if the condition holds, and otherwise b.
func (m *maker[T]) choice(condition T, a, b lowered[T]) lowered[T] {
	l := lowered[T]{kind: a.kind}
	if a.kind != api.TypeTuple {
		l.form = m.node(api.FoCond, condition, a.form, b.form)
	}
	for k := range max(len(a.elements), len(b.elements)) {
		l.elements = append(l.elements, m.choice(condition, m.element(a, k), m.element(b, k)))
	}
	return l
}

func (m *maker[T]) tuple(_ api.Expr, args []lowered[T]) lowered[T] {
	return lowered[T]{kind: api.TypeTuple, elements: args}
}

func (m *maker[T]) field(e api.Expr, args []lowered[T]) lowered[T] { return args[0].elements[e.Int] }

func (m *maker[T]) list(_ api.Expr, args []lowered[T]) lowered[T] {
	return lowered[T]{kind: api.TypeList, form: m.constant(len(args)), elements: args}
}

func (m *maker[T]) push(_ api.Expr, args []lowered[T]) lowered[T] {
	n, elements := args[0].form, args[0].elements
	hasRoom := m.node(api.FoLt, n, m.constant(len(elements)))
	l := lowered[T]{kind: api.TypeList, form: m.node(api.FoCond, hasRoom, m.node(api.FoAdd, n, m.constant(1)), n)}
	for k, element := range elements {
		isNext := m.node(api.FoEq, n, m.constant(k))
		l.elements = append(l.elements, m.choice(isNext, args[1], element))
	}
	return l
}

func (m *maker[T]) length(_ api.Expr, args []lowered[T]) lowered[T] {
	return lowered[T]{form: args[0].form}
}

func (m *maker[T]) at(_ api.Expr, args []lowered[T]) lowered[T] {
	n, i := args[0].form, args[1].form
	rest := m.constant(0)
	for k := len(args[0].elements) - 1; k >= 0; k-- {
		isHere := m.node(api.FoAnd, m.node(api.FoEq, i, m.constant(k)), m.node(api.FoLt, m.constant(k), n))
		rest = m.node(api.FoCond, isHere, args[0].elements[k].form, rest)
	}
	return lowered[T]{form: rest}
}
