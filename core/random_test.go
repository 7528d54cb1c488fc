package core_test

import (
	"math/rand/v2"
	"reflect"
	"slices"

	"exactppl/api"
	"exactppl/polynomial"
	"exactppl/rational"
	"exactppl/types"
)

// maker makes random modules that are valid, and damages them.
type maker struct {
	*rand.Rand
	params   int
	cells    []api.Cell
	procs    []api.Proc // that can be called
	nested   int        // how many nested modules can be drawn from
	isNested bool
	straight bool
}

func newMaker(seed uint64) *maker { return &maker{Rand: rand.New(rand.NewPCG(seed, seed+1))} }

// often reports in one of n cases true.
func (m *maker) often(n int) bool { return m.IntN(n) == 0 }

func pick[T any](m *maker, l ...T) T { return l[m.IntN(len(l))] }

// many returns from low to high parts.
func many[T any](m *maker, low, high int, part func() T) []T {
	var l []T
	for range low + m.IntN(high-low+1) {
		l = append(l, part())
	}
	return l
}

// rat returns a number from low to high in some form.
func (m *maker) rat(low, high int) api.Rat {
	den := 1 + m.IntN(6)
	return m.disguised(ratio(low*den+m.IntN((high-low)*den+1), den))
}

// disguised returns r in another form, often.
func (m *maker) disguised(r api.Rat) api.Rat {
	if rational.Sign(r) == 0 {
		return pick(m, r, api.Rat{}, api.Rat{Neg: true, Num: []uint32{5}}, api.Rat{Neg: true, Den: []uint32{3}}, api.Rat{Num: []uint32{0, 0}, Den: []uint32{0, 1}})
	}
	k := uint64(1 + m.IntN(3))
	times := func(l []uint32) []uint32 {
		var product []uint32
		carry := uint64(0)
		for _, limb := range l {
			carry += k * uint64(limb)
			product = append(product, uint32(carry))
			carry >>= 32
		}
		return append(product, uint32(carry))
	}
	return api.Rat{Neg: r.Neg, Num: times(r.Num), Den: times(r.Den)}
}

// disguisedPoly returns p in another form, often.
func (m *maker) disguisedPoly(p api.Poly) api.Poly {
	var l api.Poly
	for _, t := range p {
		if m.often(3) {
			part := m.rat(-2, 2)
			l = append(l, api.Term{Mono: t.Mono, Coef: part})
			t.Coef = rational.Sub(t.Coef, part)
		}
		t.Coef = m.disguised(t.Coef)
		l = append(l, t)
	}
	for m.often(3) { // terms whose sum is zero
		t := api.Term{Coef: m.rat(-2, 2)}
		t.Mono[m.IntN(api.MaxVars)] = pick(m, 1, 17, api.MaxExp)
		l = append(l, t, api.Term{Mono: t.Mono, Coef: rational.Neg(t.Coef)})
	}
	m.Shuffle(len(l), func(i, j int) { l[i], l[j] = l[j], l[i] })
	return l
}

// weights returns n weights whose sum is 1.
func (m *maker) weights(n int) []api.Poly {
	parts := many(m, n, n, func() int { return m.IntN(3) })
	parts[m.IntN(n)]++
	sum := 0
	for _, part := range parts {
		sum += part
	}
	l := each(parts, func(part int) api.Poly { return constant(part, sum) })
	for range m.IntN(4) * min(m.params, n-1) {
		t := api.Term{Coef: m.rat(-2, 2)}
		t.Mono[m.IntN(m.params)] = pick(m, 1, 1, 2, api.MaxWeight)
		t.Mono[m.IntN(m.params)] = pick(m, 1, 3, api.MaxWeight)
		i := m.IntN(n - 1)
		l[i], _ = polynomial.Add(l[i], api.Poly{t})
		l[i+1], _ = polynomial.Sub(l[i+1], api.Poly{t})
	}
	return each(l, m.disguisedPoly)
}

// dist returns a distribution for a cell of a kind.
func (m *maker) dist(kind int) api.Dist {
	switch {
	case kind == api.TypeReal && m.often(2):
		return api.Dist{Kind: api.DistInterval, From: m.rat(-3, 0), To: m.disguised(ratio(1+m.IntN(5), 7))}
	case kind == api.TypeReal:
		return api.Dist{Kind: api.DistBeta, Low: 1 + m.IntN(api.MaxBeta), High: 1 + m.IntN(api.MaxBeta)}
	case kind == api.TypeNat && m.often(2):
		return api.Dist{Kind: api.DistGeometric, From: m.disguised(ratio(m.IntN(7), 7))}
	case m.nested > 0 && m.often(2):
		return api.Dist{Kind: api.DistNested, Low: m.IntN(m.nested)}
	}
	n := pick(m, 1, 2, 2, 3, 5, api.MaxOutcomes)
	return table(pick(m, 0, -1, -api.MaxInt, api.MaxInt-n+1), m.weights(n)...)
}

// variables returns FoVar of all cells that are real or are not.
func (m *maker) variables(isReal bool) []api.Form {
	var l []api.Form
	for i, c := range m.cells {
		if (c.Kind == api.TypeReal) == isReal {
			l = append(l, variable(i))
		}
	}
	return l
}

// plain returns a form that is not real.
func (m *maker) plain(depth int) api.Form {
	if depth <= 0 || m.often(4) {
		return pick(m, append(m.variables(false), num(pick(m, 0, 1, -1, 2, 7, api.MaxArith, -3*api.MaxArith)))...)
	}
	inner := func() api.Form { return m.plain(depth - 1) }
	switch m.IntN(6) {
	case 0:
		return node(api.FoNot, inner())
	case 1:
		return node(pick(m, api.FoLt, api.FoLe), m.form(depth-1), m.form(depth-1))
	case 2:
		return node(api.FoCond, inner(), inner(), inner())
	}
	return node(pick(m, api.FoAnd, api.FoOr, api.FoEq, api.FoAdd, api.FoSub, api.FoMul), inner(), inner())
}

// closed returns a form without variables.
func (m *maker) closed(depth int) api.Form {
	if depth <= 0 || m.often(3) {
		return pick(m, num(m.IntN(5)), api.Form{Op: api.FoRat, Rat: m.rat(-2, 2)})
	}
	return node(pick(m, api.FoAdd, api.FoSub, api.FoMul, api.FoLt), m.closed(depth-1), m.closed(depth-1))
}

// form returns a form that is real, often.
func (m *maker) form(depth int) api.Form {
	switch {
	case depth <= 0 || m.often(4):
		return pick(m, append(m.variables(true), api.Form{Op: api.FoRat, Rat: m.rat(-2, 2)}, num(3))...)
	case m.often(3):
		return m.plain(depth)
	case m.often(3):
		l := []api.Form{m.closed(depth - 1), m.form(depth - 1)}
		m.Shuffle(2, func(i, j int) { l[i], l[j] = l[j], l[i] })
		return node(api.FoMul, l...)
	}
	return node(pick(m, api.FoAdd, api.FoSub), m.form(depth-1), m.form(depth-1))
}

// targets returns from 1 to 3 different cells that are not real; it may return fewer than n.
func (m *maker) targets(n int) []int {
	var l []int
	for _, f := range m.variables(false) {
		l = append(l, f.Int)
	}
	m.Shuffle(len(l), func(i, j int) { l[i], l[j] = l[j], l[i] })
	return l[:min(n, len(l))]
}

func (m *maker) commands(depth int) []api.Cmd {
	return many(m, 0, 3, func() api.Cmd { return m.command(depth) })
}

func (m *maker) command(depth int) api.Cmd {
	kind := 1 + m.IntN(7)
	if depth <= 0 && (kind == api.CmdIf || kind == api.CmdWhile) || m.isNested && kind == api.CmdCut || (m.isNested || m.straight) && kind == api.CmdWhile {
		kind = pick(m, api.CmdSet, api.CmdDraw)
	}
	c := api.Cmd{Kind: kind, Site: m.IntN(4)}
	switch kind {
	case api.CmdDraw:
		c.Var = m.IntN(len(m.cells))
		c.Dist = m.dist(m.cells[c.Var].Kind)
	case api.CmdIf:
		c.Form, c.Then, c.Else = m.plain(2), m.commands(depth-1), m.commands(depth-1)
	case api.CmdWhile:
		c.Form, c.Then = m.plain(2), m.commands(depth-1)
	case api.CmdObserve:
		c.Form = m.plain(4)
	case api.CmdCall:
		return m.call()
	case api.CmdSet:
		return m.set()
	}
	return c
}

func (m *maker) set() api.Cmd {
	c := api.Cmd{Kind: api.CmdSet, Outs: m.targets(1 + m.IntN(3))}
	for i, cell := range m.cells {
		if cell.Kind == api.TypeReal && m.often(2) {
			c.Outs = append(c.Outs, i)
		}
	}
	if len(c.Outs) == 0 {
		c.Outs = []int{0}
	}
	for _, out := range c.Outs {
		if m.cells[out].Kind == api.TypeReal {
			c.Args = append(c.Args, m.form(3))
		} else {
			c.Args = append(c.Args, m.plain(3))
		}
	}
	return c
}

// call returns a call, or an assignment where there is none.
func (m *maker) call() api.Cmd {
	if len(m.procs) == 0 {
		return m.set()
	}
	i := m.IntN(len(m.procs))
	p := m.procs[i]
	c := call(i, m.targets(len(p.Outs)), many(m, p.Args, p.Args, func() api.Form { return m.plain(2) })...)
	if len(c.Outs) < len(p.Outs) {
		return m.set()
	}
	return c
}

// finite returns a cell of a procedure or a nested module.
func (m *maker) finite() api.Cell {
	low := pick(m, 0, -3, 985, -api.MaxInt)
	return pick(m, truth, small, api.Cell{Kind: api.TypeInt, Low: low, High: low + pick(m, 0, 7, 15)})
}

// outs returns the cells of a result of the type t. It adds cells where there is none.
func (m *maker) outs(t api.Type) []int {
	cells, _ := types.Cells(t)
	return each(cells, func(c api.Cell) int {
		i := slices.Index(m.cells, c)
		if i >= 0 && m.often(2) {
			return i
		}
		m.cells = append(m.cells, c)
		return len(m.cells) - 1
	})
}

func (m *maker) resultType() api.Type {
	number := api.Type{Kind: api.TypeInt, Low: -2, High: pick(m, 3, 13)}
	if m.isNested || m.often(2) {
		return pick(m, boolean, number)
	}
	list := api.Type{Kind: api.TypeList, Max: 1 + m.IntN(3), Elems: []api.Type{boolean}}
	tuple := api.Type{Kind: api.TypeTuple, Elems: []api.Type{list, number}}
	return pick(m, list, tuple, api.Type{Kind: api.TypeNat}, api.Type{Kind: api.TypeReal})
}

// block returns a module without procedures and nested modules.
func (m *maker) block(cell func() api.Cell) api.Module {
	m.cells = many(m, 0, 4, cell)
	t := m.resultType()
	outs := m.outs(t)
	m.Shuffle(len(m.cells), func(i, j int) {
		m.cells[i], m.cells[j] = m.cells[j], m.cells[i]
		for k, out := range outs {
			switch out {
			case i:
				outs[k] = j
			case j:
				outs[k] = i
			}
		}
	})
	return api.Module{Params: m.params, Cells: m.cells, Body: many(m, 1, 4, func() api.Cmd { return m.command(3) }), Outs: outs, Type: t}
}

// module returns a module.
func (m *maker) module(straight bool) api.Module {
	var nested []api.Module
	m.straight, m.isNested, m.params, m.procs, m.nested = straight, true, 0, nil, 0
	if !straight {
		for range pick(m, 0, 1, 3) {
			nested = append(nested, m.block(m.finite))
			m.nested++
		}
	}
	m.isNested, m.params = false, m.IntN(api.MaxParams+1)
	if !straight {
		m.procs = many(m, 0, 3, m.signature)
	}
	procs := slices.Clone(m.procs)
	for i, p := range procs {
		m.cells = p.Cells
		procs[i].Body = m.commands(2)
	}
	extra := pick(m, truth, natural, real)
	x := m.block(func() api.Cell { return pick(m, m.finite(), extra) })
	x.Procs, x.Nested = procs, nested
	return copyOf(x)
}

// signature returns a procedure without commands.
func (m *maker) signature() api.Proc {
	p := api.Proc{Cells: many(m, 1, 4, m.finite)}
	p.Args = m.IntN(len(p.Cells) + 1)
	p.Outs = many(m, 1, 3, func() int { return m.IntN(len(p.Cells)) })
	return p
}

// damage changes one place of a module.
func (m *maker) damage(x *api.Module) {
	whole := reflect.ValueOf(x).Elem()
	kinds := []any{api.Module{}, api.Proc{}, api.Cell{}, api.Cmd{}, api.Cmd{}, api.Cmd{}, api.Form{}, api.Form{}, api.Dist{}, api.Dist{}, api.Dist{}, api.Poly{}, api.Term{}, []api.Poly{}, []int{}}
	var l []reflect.Value
	for len(l) == 0 {
		l = slices.DeleteFunc(places(nil, whole, reflect.TypeOf(pick(m, kinds...))), isBlank)
	}
	m.damageValue(pick(m, l...), whole)
}

// damageValue changes one place of v, which is a part of the whole.
func (m *maker) damageValue(v, whole reflect.Value) {
	switch v.Kind() {
	case reflect.Struct:
		if m.often(6) {
			v.Set(m.part(whole, v.Type()))
			return
		}
		m.damageValue(v.Field(m.IntN(v.NumField())), whole)
	case reflect.Array:
		m.damageValue(v.Index(m.IntN(v.Len())), whole)
	case reflect.Slice:
		if v.Len() > 0 && !m.often(3) {
			m.damageValue(v.Index(m.IntN(v.Len())), whole)
			return
		}
		m.damageList(v, whole)
	case reflect.Bool:
		v.SetBool(!v.Bool())
	case reflect.Uint32:
		v.SetUint(uint64(m.IntN(4)))
	default:
		n := v.Int()
		v.SetInt(pick(m, n+1, n-1, -n, 0, 1, 2, 3, 4, 6, 9, 13, 14, 16, 17, 400, 1000, 1001, -1000, -1001, 1<<62, -1<<63))
	}
}

// damageList changes the list v.
func (m *maker) damageList(v, whole reflect.Value) {
	n, element := v.Len(), v.Type().Elem()
	longer := reflect.AppendSlice(reflect.MakeSlice(v.Type(), 0, n+17), v)
	switch m.IntN(5) {
	case 0:
		v.SetZero()
	case 1:
		v.Set(longer.Slice(0, max(0, n-1)))
	case 2:
		v.Set(reflect.Append(longer, reflect.Zero(element)))
	case 3:
		part := m.part(whole, element)
		for range pick(m, 1, 1, 9, 17) {
			longer = reflect.Append(longer, part)
		}
		v.Set(longer)
	default:
		v.Set(m.part(whole, v.Type()))
	}
}

// isBlank reports whether a struct has only zeros and empty lists.
func isBlank(v reflect.Value) bool {
	if v.Kind() != reflect.Struct {
		return false
	}
	for i := range v.NumField() {
		f := v.Field(i)
		if !f.IsZero() && !(f.Kind() == reflect.Slice && f.Len() == 0) && !isBlank(f) {
			return false
		}
	}
	return true
}

// part returns a copy of a part of the whole that has the type t, or zero if there is none.
func (m *maker) part(whole reflect.Value, t reflect.Type) reflect.Value {
	part := reflect.New(t).Elem()
	if l := places(nil, whole, t); len(l) > 0 {
		copyInto(part, pick(m, l...), 0)
	}
	return part
}

// places appends the parts of v that have the type t.
func places(l []reflect.Value, v reflect.Value, t reflect.Type) []reflect.Value {
	if v.Type() == t {
		l = append(l, v)
	}
	switch v.Kind() {
	case reflect.Struct:
		for i := range v.NumField() {
			l = places(l, v.Field(i), t)
		}
	case reflect.Array, reflect.Slice:
		if k := v.Type().Elem().Kind(); k == reflect.Uint32 && k != t.Kind() {
			return l
		}
		for i := range v.Len() {
			l = places(l, v.Index(i), t)
		}
	}
	return l
}
