package lower_test

import (
	"slices"

	"exactppl/api"
	"exactppl/checker"
	"exactppl/polynomial"
	"exactppl/rational"
)

// The definition of P12.1 to P12.6, for small programs without errors: an expression is a flat list of forms, one for each cell of its shape, and repeated commands are made anew each time.

// part is a form with its size and its depth. It can be an argument of several others.
type part struct {
	api.Form
	args        []*part
	size, depth int
}

func leaf(f api.Form) *part { return &part{Form: f, size: 1, depth: 1} }

func constant(n int) *part { return leaf(api.Form{Op: api.FoInt, Int: n}) }

func operation(op int, args ...*part) *part {
	x := &part{Form: api.Form{Op: op}, args: args, size: 1}
	for _, arg := range args {
		x.size += arg.size
		x.depth = max(x.depth, arg.depth)
	}
	x.depth++
	return x
}

func conjunction(l []*part) *part {
	if len(l) == 1 {
		return l[0]
	}
	last := len(l) - 1
	return operation(api.FoAnd, conjunction(l[:last]), l[last])
}

// whole returns the form itself.
func (x *part) whole() api.Form {
	f := x.Form
	f.Rat = rational.Norm(f.Rat)
	if f.Op != api.FoRat {
		f.Rat = api.Rat{}
	}
	for _, arg := range x.args {
		f.Args = append(f.Args, arg.whole())
	}
	return f
}

// shape is the shape of an expression: its kind is TypeTuple, TypeList, or 0.
type shape struct {
	kind     int
	elements []shape // of a tuple
	capacity int     // of a list
}

func (s shape) width() int {
	switch s.kind {
	case api.TypeTuple:
		n := 0
		for _, element := range s.elements {
			n += element.width()
		}
		return n
	case api.TypeList:
		return 1 + s.capacity
	}
	return 1
}

func shapeOfType(u api.Type) shape {
	switch u.Kind {
	case api.TypeTuple:
		return shape{kind: u.Kind, elements: each(u.Elems, shapeOfType)}
	case api.TypeList:
		return shape{kind: u.Kind, capacity: u.Max}
	}
	return shape{}
}

// split returns the forms of the elements of a tuple.
func (s shape) split(l []*part) [][]*part {
	return each(s.elements, func(element shape) []*part {
		n := element.width()
		forms := l[:n]
		l = l[n:]
		return forms
	})
}

// elementOf returns the element k of a list with these forms, and 0 beyond its capacity.
func elementOf(l []*part, k int) *part {
	if k+1 < len(l) {
		return l[k+1]
	}
	return constant(0)
}

// refBlock is a block of the reference.
type refBlock struct {
	whole   api.Program
	source  api.Func
	types   map[string]api.Type
	first   map[string]int // the first cell of a variable
	weights map[*api.Stmt]int
	cells   []api.Cell
}

func newRefBlock(whole api.Program, f api.Func) *refBlock {
	b := &refBlock{whole, f, map[string]api.Type{}, map[string]int{}, map[*api.Stmt]int{}, nil}
	for _, d := range slices.Concat(f.Args, f.Vars) {
		b.types[d.Name], b.first[d.Name] = d.Type, len(b.cells)
		b.addCells(d.Type)
	}
	b.addWeights(f.Body)
	return b
}

func (b *refBlock) addCells(u api.Type) {
	switch u.Kind {
	case api.TypeBool:
		b.cells = append(b.cells, api.Cell{Kind: api.TypeBool, Low: 0, High: 1})
	case api.TypeTuple:
		for _, element := range u.Elems {
			b.addCells(element)
		}
	case api.TypeList:
		b.cells = append(b.cells, api.Cell{Kind: api.TypeInt, Low: 0, High: u.Max})
		for range u.Max {
			b.addCells(u.Elems[0])
		}
	default:
		b.cells = append(b.cells, api.Cell{Kind: u.Kind, Low: u.Low, High: u.High})
	}
}

func (b *refBlock) addWeights(l []api.Stmt) {
	for i := range l {
		if l[i].Kind == api.StWeight {
			b.weights[&l[i]] = len(b.cells)
			b.addCells(api.Type{Kind: api.TypeBool})
		}
		b.addWeights(l[i].Then)
		b.addWeights(l[i].Else)
	}
}

// outs returns the cells of a variable.
func (b *refBlock) outs(name string) []int {
	var l []int
	for k := range shapeOfType(b.types[name]).width() {
		l = append(l, b.first[name]+k)
	}
	return l
}

func (b *refBlock) expr(e api.Expr) (shape, []*part) {
	var shapes []shape
	var args [][]*part
	for _, arg := range e.Args {
		s, l := b.expr(arg)
		shapes, args = append(shapes, s), append(args, l)
	}
	one := func(op int) (shape, []*part) {
		return shape{}, []*part{operation(op, slices.Concat(args...)...)}
	}
	switch e.Op {
	case api.ExBool, api.ExInt:
		return shape{}, []*part{constant(e.Int)}
	case api.ExRat:
		return shape{}, []*part{leaf(api.Form{Op: api.FoRat, Rat: e.Rat})}
	case api.ExName:
		return shapeOfType(b.types[e.Name]), each(b.outs(e.Name), func(v int) *part { return leaf(api.Form{Op: api.FoVar, Int: v}) })
	case api.ExNot:
		return one(api.FoNot)
	case api.ExAnd:
		return one(api.FoAnd)
	case api.ExOr:
		return one(api.FoOr)
	case api.ExLt:
		return one(api.FoLt)
	case api.ExLe:
		return one(api.FoLe)
	case api.ExAdd:
		return one(api.FoAdd)
	case api.ExSub:
		return one(api.FoSub)
	case api.ExMul:
		return one(api.FoMul)
	case api.ExNeg:
		return shape{}, []*part{operation(api.FoSub, constant(0), args[0][0])}
	case api.ExEq:
		return shape{}, []*part{equality(shapes[0], args[0], shapes[1], args[1])}
	case api.ExCond:
		return choice(args[0][0], shapes[1], args[1], shapes[2], args[2])
	case api.ExTuple:
		return shape{kind: api.TypeTuple, elements: shapes}, slices.Concat(args...)
	case api.ExField:
		return shapes[0].elements[e.Int], shapes[0].split(args[0])[e.Int]
	}
	return listExpr(e, shapes, args)
}

// listExpr returns an expression whose operator is one of lists.
func listExpr(e api.Expr, shapes []shape, args [][]*part) (shape, []*part) {
	if e.Op == api.ExList {
		return shape{kind: api.TypeList, capacity: len(args)}, append([]*part{constant(len(args))}, slices.Concat(args...)...)
	}
	n, c := args[0][0], shapes[0].capacity
	switch e.Op {
	case api.ExLen:
		return shape{}, []*part{n}
	case api.ExPush:
		forms := []*part{operation(api.FoCond, operation(api.FoLt, n, constant(c)), operation(api.FoAdd, n, constant(1)), n)}
		for k := range c {
			forms = append(forms, operation(api.FoCond, operation(api.FoEq, n, constant(k)), args[1][0], args[0][k+1]))
		}
		return shapes[0], forms
	}
	i := args[1][0]
	var rest func(k int) *part
	rest = func(k int) *part {
		if k == c {
			return constant(0)
		}
		here := operation(api.FoAnd, operation(api.FoEq, i, constant(k)), operation(api.FoLt, constant(k), n))
		return operation(api.FoCond, here, args[0][k+1], rest(k+1))
	}
	return shape{}, []*part{rest(0)}
}

func equality(s shape, a []*part, u shape, b []*part) *part {
	var l []*part
	switch s.kind {
	case api.TypeTuple:
		first, second := s.split(a), u.split(b)
		for i := range first {
			l = append(l, equality(s.elements[i], first[i], u.elements[i], second[i]))
		}
		return conjunction(l)
	case api.TypeList:
		l = append(l, operation(api.FoEq, a[0], b[0]))
		for k := 0; k <= max(s.capacity, u.capacity)-1; k++ {
			l = append(l, operation(api.FoOr, operation(api.FoLe, a[0], constant(k)), operation(api.FoEq, elementOf(a, k), elementOf(b, k))))
		}
		return conjunction(l)
	}
	return operation(api.FoEq, a[0], b[0])
}

func choice(condition *part, s shape, a []*part, u shape, b []*part) (shape, []*part) {
	var forms []*part
	switch s.kind {
	case api.TypeTuple:
		common := shape{kind: s.kind}
		first, second := s.split(a), u.split(b)
		for i := range first {
			element, l := choice(condition, s.elements[i], first[i], u.elements[i], second[i])
			common.elements, forms = append(common.elements, element), append(forms, l...)
		}
		return common, forms
	case api.TypeList:
		forms = append(forms, operation(api.FoCond, condition, a[0], b[0]))
		s.capacity = max(s.capacity, u.capacity)
		for k := range s.capacity {
			forms = append(forms, operation(api.FoCond, condition, elementOf(a, k), elementOf(b, k)))
		}
		return s, forms
	}
	return s, []*part{operation(api.FoCond, condition, a[0], b[0])}
}

// forType returns the forms of an expression for a type.
func (b *refBlock) forType(e api.Expr, u api.Type) []*part {
	s, l := b.expr(e)
	return fit(s, l, u)
}

func fit(s shape, l []*part, u api.Type) []*part {
	switch u.Kind {
	case api.TypeTuple:
		var forms []*part
		for i, element := range s.split(l) {
			forms = append(forms, fit(s.elements[i], element, u.Elems[i])...)
		}
		return forms
	case api.TypeList:
		forms := []*part{l[0]}
		for k := range s.capacity {
			forms = append(forms, operation(api.FoCond, operation(api.FoLt, constant(k), l[0]), l[k+1], constant(0)))
		}
		for range u.Max - s.capacity {
			forms = append(forms, constant(0))
		}
		return forms
	}
	return l
}

// refCmd is a command whose forms are not made yet.
type refCmd struct {
	api.Cmd
	form *part
	args []*part
	then []refCmd
	els  []refCmd
}

func (b *refBlock) commands(l []api.Stmt) []refCmd {
	var out []refCmd
	for i := range l {
		s := &l[i]
		switch s.Kind {
		case api.StRepeat:
			for range s.Int {
				out = append(out, b.commands(s.Then)...)
			}
		case api.StWeight:
			v := b.weights[s]
			out = append(out, refCmd{Cmd: api.Cmd{Kind: api.CmdDraw, Var: v, Dist: table(0, b.flip(s.Expr)...)}}, refCmd{Cmd: api.Cmd{Kind: api.CmdObserve}, form: leaf(api.Form{Op: api.FoVar, Int: v})})
		default:
			out = append(out, b.command(s))
		}
	}
	return out
}

func (b *refBlock) command(s *api.Stmt) refCmd {
	condition := func() *part {
		_, l := b.expr(s.Expr)
		return l[0]
	}
	switch s.Kind {
	case api.StAssign:
		return refCmd{Cmd: api.Cmd{Kind: api.CmdSet, Outs: b.outs(s.Name)}, args: b.forType(s.Expr, b.types[s.Name])}
	case api.StDraw:
		return refCmd{Cmd: api.Cmd{Kind: api.CmdDraw, Var: b.first[s.Name], Dist: b.dist(s.Draw)}}
	case api.StCall:
		c := refCmd{Cmd: api.Cmd{Kind: api.CmdCall, Var: indexOf(b.whole.Funcs, s.Func), Outs: b.outs(s.Name)}}
		for i, e := range s.Args {
			c.args = append(c.args, b.forType(e, b.whole.Funcs[c.Var].Args[i].Type)...)
		}
		return c
	case api.StIf:
		return refCmd{Cmd: api.Cmd{Kind: api.CmdIf}, form: condition(), then: b.commands(s.Then), els: b.commands(s.Else)}
	case api.StWhile:
		return refCmd{Cmd: api.Cmd{Kind: api.CmdWhile}, form: condition(), then: b.commands(s.Then)}
	}
	return refCmd{Cmd: api.Cmd{Kind: api.CmdObserve}, form: condition()}
}

func indexOf(l []api.Func, name string) int {
	for i, f := range l {
		if f.Name == name {
			return i
		}
	}
	return -1
}

func table(low int, weights ...api.Poly) api.Dist {
	return api.Dist{Kind: api.DistTable, Low: low, Weights: weights}
}

// flip returns 1 - q and q, q being the probability that e denotes.
func (b *refBlock) flip(e api.Expr) []api.Poly {
	q, _ := checker.Probability(b.whole.Params, e)
	rest, _ := polynomial.Sub(polynomial.Const(rational.Int(1)), q)
	return []api.Poly{rest, q}
}

func (b *refBlock) dist(d api.Draw) api.Dist {
	switch d.Kind {
	case api.DrawFlip:
		return table(0, b.flip(d.Probs[0])...)
	case api.DrawUniform:
		r, _ := rational.New(1, d.High-d.Low+1)
		return table(d.Low, slices.Repeat([]api.Poly{polynomial.Const(r)}, d.High-d.Low+1)...)
	case api.DrawTable:
		return table(d.Low, each(d.Probs, func(e api.Expr) api.Poly { return b.flip(e)[1] })...)
	case api.DrawBinomial:
		return table(0, successes(d.High, b.flip(d.Probs[0]))...)
	case api.DrawGeometric:
		return api.Dist{Kind: api.DistGeometric, From: rational.Norm(d.From)}
	case api.DrawInterval:
		return api.Dist{Kind: api.DistInterval, From: rational.Norm(d.From), To: rational.Norm(d.To)}
	case api.DrawBeta:
		return api.Dist{Kind: api.DistBeta, Low: d.Low, High: d.High}
	}
	return api.Dist{Kind: api.DistNested, Low: indexOf(b.whole.Queries, d.Name)}
}

// successes returns the probabilities of 0 to n successes: those of n - 1 trials, and one trial more.
func successes(n int, flip []api.Poly) []api.Poly {
	if n == 0 {
		return []api.Poly{polynomial.Const(rational.Int(1))}
	}
	weights := make([]api.Poly, n+1)
	for k, w := range successes(n-1, flip) {
		for more, chance := range flip {
			product, _ := polynomial.Mul(w, chance)
			weights[k+more], _ = polynomial.Add(weights[k+more], product)
		}
	}
	return weights
}

// usage is what commands take of the limits.
type usage struct{ commands, sizes, size, depth int }

func (u *usage) add(l []refCmd) {
	for _, c := range l {
		u.commands++
		forms := slices.Clone(c.args)
		if c.form != nil {
			forms = append(forms, c.form)
		}
		for _, f := range forms {
			u.sizes, u.size, u.depth = u.sizes+f.size, max(u.size, f.size), max(u.depth, f.depth)
		}
		u.add(c.then)
		u.add(c.els)
	}
}

func finished(l []refCmd) []api.Cmd {
	return each(l, func(c refCmd) api.Cmd {
		if c.form != nil {
			c.Form = c.form.whole()
		}
		c.Args = each(c.args, (*part).whole)
		c.Then, c.Else = finished(c.then), finished(c.els)
		return c.Cmd
	})
}

// lowerByReference returns the module of p, which has no error of Check, or false if it is too large.
func lowerByReference(p api.Program) (api.Module, bool) {
	var u usage
	cells := 0
	var makers []func()
	m := api.Module{Params: len(p.Params), Procs: make([]api.Proc, len(p.Funcs)), Nested: make([]api.Module, len(p.Queries))}
	add := func(f api.Func, use func(b *refBlock, body func() []api.Cmd)) {
		b := newRefBlock(p, f)
		l := b.commands(f.Body)
		cells = max(cells, len(b.cells))
		u.add(l)
		makers = append(makers, func() { use(b, func() []api.Cmd { return finished(l) }) })
	}
	for i, f := range p.Funcs {
		add(f, func(b *refBlock, body func() []api.Cmd) {
			args := 0
			for _, d := range f.Args {
				args += len(b.outs(d.Name))
			}
			m.Procs[i] = api.Proc{Cells: b.cells, Args: args, Body: body(), Outs: b.outs(f.Result)}
		})
	}
	for i, q := range p.Queries {
		add(q, func(b *refBlock, body func() []api.Cmd) {
			m.Nested[i] = api.Module{Cells: b.cells, Body: body(), Outs: b.outs(q.Result), Type: b.types[q.Result]}
		})
	}
	add(api.Func{Vars: p.Vars, Body: p.Body}, func(b *refBlock, body func() []api.Cmd) {
		m.Cells, m.Body, m.Outs, m.Type = b.cells, body(), b.outs(p.Result), b.types[p.Result]
	})
	if u.commands > 2000 || cells > 400 || u.depth > 200 || u.size > 20000 || u.sizes > 200000 {
		return api.Module{}, false
	}
	for _, make := range makers {
		make()
	}
	return m, true
}
