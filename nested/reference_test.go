package nested_test

import (
	"math"
	"math/big"
	"slices"
	"testing"

	"exactppl/api"
	"exactppl/core"
	"exactppl/nested"
	"exactppl/polynomial"
	"exactppl/rational"
)

// P18.1 and P18.2 by their definitions. The runs of nested modules, their forms and their posteriors have definitions of their own.

func toInt(a []uint32) *big.Int {
	n := new(big.Int)
	for _, limb := range slices.Backward(a) {
		n.Lsh(n, 32).Or(n, new(big.Int).SetUint64(uint64(limb)))
	}
	return n
}

// toBig returns the number that a denotes.
func toBig(a api.Rat) *big.Rat {
	num, den := toInt(a.Num), toInt(a.Den)
	if den.Sign() == 0 {
		return new(big.Rat)
	}
	if a.Neg {
		num.Neg(num)
	}
	return new(big.Rat).SetFrac(num, den)
}

// fromBig returns the constant polynomial x in normal form.
func fromBig(x *big.Rat) api.Poly {
	if x.Sign() == 0 {
		return nil
	}
	split := func(n *big.Int) []uint32 {
		var a []uint32
		for n = new(big.Int).Abs(n); n.Sign() > 0; n.Rsh(n, 32) {
			a = append(a, uint32(new(big.Int).And(n, big.NewInt(math.MaxUint32)).Uint64()))
		}
		return a
	}
	return api.Poly{{Coef: api.Rat{Neg: x.Sign() < 0, Num: split(x.Num()), Den: split(x.Denom())}}}
}

// constantOf returns the number that a weight without parameters denotes.
func constantOf(p api.Poly) *big.Rat {
	x := new(big.Rat)
	for _, t := range p {
		if t.Mono == (api.Mono{}) {
			x.Add(x, toBig(t.Coef))
		}
	}
	return x
}

// near returns the number from low to high that is nearest to n.
func near(low, n, high int) int {
	switch {
	case n < low:
		return low
	case n > high:
		return high
	}
	return n
}

// truthOf returns 1 or 0.
func truthOf(holds bool) int {
	if holds {
		return 1
	}
	return 0
}

// valueOf returns the value of a form.
func valueOf(f api.Form, state []int) int {
	limited := func(n int) int { return near(-1<<30, n, 1<<30) }
	a := each(f.Args, func(arg api.Form) int { return valueOf(arg, state) })
	switch f.Op {
	case api.FoInt:
		return limited(f.Int)
	case api.FoVar:
		return limited(state[f.Int])
	case api.FoNot:
		return truthOf(a[0] == 0)
	case api.FoAnd:
		return truthOf(a[0] != 0 && a[1] != 0)
	case api.FoOr:
		return truthOf(a[0] != 0 || a[1] != 0)
	case api.FoEq:
		return truthOf(a[0] == a[1])
	case api.FoLt:
		return truthOf(a[0] < a[1])
	case api.FoLe:
		return truthOf(a[0] <= a[1])
	case api.FoAdd:
		return limited(a[0] + a[1])
	case api.FoSub:
		return limited(a[0] - a[1])
	case api.FoMul:
		return limited(a[0] * a[1])
	case api.FoCond:
		return a[2-truthOf(a[0] != 0)]
	}
	panic("a form that has no value")
}

// A chance is a distribution: the probability of each number.
type chance map[int]*big.Rat

func (c chance) add(n int, p *big.Rat) {
	if c[n] == nil {
		c[n] = new(big.Rat)
	}
	c[n].Add(c[n], p)
}

// machine executes a module whose draws are from tables and nested modules. It stops when there are too many runs.
type machine struct {
	cells   []api.Cell
	queries []chance
	runs    int
}

// changed returns the state with a variable set to the nearest value of its range.
func (x *machine) changed(state []int, i, n int) []int {
	state = slices.Clone(state)
	switch c := x.cells[i]; c.Kind {
	case api.TypeBool:
		n = truthOf(n != 0)
	case api.TypeInt:
		n = near(c.Low, n, c.High)
	case api.TypeNat:
		n = max(0, n)
	}
	state[i] = n
	return state
}

// outcomes returns the numbers that a draw can have.
func (x *machine) outcomes(d api.Dist) chance {
	if d.Kind == api.DistNested {
		return x.queries[d.Low]
	}
	c := chance{}
	for i, w := range d.Weights {
		if p := constantOf(w); p.Sign() != 0 {
			c.add(d.Low+i, p)
		}
	}
	return c
}

// run executes the commands of l, and then what follows.
func (x *machine) run(l []api.Cmd, state []int, mass *big.Rat, next func(state []int, mass *big.Rat)) {
	if x.runs > 20000 {
		return
	}
	if len(l) == 0 {
		next(state, mass)
		return
	}
	c := l[0]
	after := func(state []int, mass *big.Rat) { x.run(l[1:], state, mass, next) }
	switch c.Kind {
	case api.CmdSet:
		set := state
		for i, f := range c.Args {
			set = x.changed(set, c.Outs[i], valueOf(f, state))
		}
		after(set, mass)
	case api.CmdDraw:
		for n, p := range x.outcomes(c.Dist) {
			after(x.changed(state, c.Var, n), new(big.Rat).Mul(p, mass))
		}
	case api.CmdIf:
		x.run([][]api.Cmd{c.Else, c.Then}[truthOf(valueOf(c.Form, state) != 0)], state, mass, after)
	case api.CmdObserve:
		if valueOf(c.Form, state) == 0 {
			x.runs++
			return
		}
		after(state, mass)
	default:
		panic("a command that no query has")
	}
}

// results returns the masses of the results of a module with one variable as its result, and how many runs it has, or more than MaxTraces.
func results(m api.Module, queries []chance) (chance, int) {
	x, c := &machine{cells: m.Cells, queries: queries}, chance{}
	state := make([]int, len(m.Cells))
	for i := range m.Cells {
		state = x.changed(state, i, 0)
	}
	x.run(m.Body, state, big.NewRat(1, 1), func(state []int, mass *big.Rat) {
		x.runs++
		c.add(state[m.Outs[0]], mass)
	})
	return c, x.runs
}

// flat returns the commands of l and those in them.
func flat(l []api.Cmd) []api.Cmd {
	var all []api.Cmd
	for _, c := range l {
		all = slices.Concat(all, []api.Cmd{c}, flat(c.Then), flat(c.Else))
	}
	return all
}

func hasRat(f api.Form) bool { return f.Op == api.FoRat || slices.ContainsFunc(f.Args, hasRat) }

// posterior returns the posterior of a nested module, or its error.
func posterior(m api.Module, queries []chance) (chance, api.Errno) {
	draws := 0
	for _, c := range flat(m.Body) {
		draws += truthOf(c.Kind == api.CmdDraw)
	}
	if draws > 64 {
		return nil, api.ErrLimit
	}
	for _, c := range flat(m.Body) {
		if hasRat(c.Form) || slices.ContainsFunc(c.Args, hasRat) {
			return nil, api.ErrClass
		}
	}
	masses, runs := results(m, queries)
	if runs > 20000 {
		return nil, api.ErrLimit
	}
	evidence := new(big.Rat)
	for _, p := range masses {
		evidence.Add(evidence, p)
	}
	if evidence.Sign() == 0 {
		return nil, api.ErrEvidence
	}
	for _, p := range masses {
		p.Quo(p, evidence)
	}
	return masses, api.OK
}

// posteriors returns those of the nested modules of a valid module, or the first error.
func posteriors(m api.Module) ([]chance, api.Errno) {
	var queries []chance
	for _, n := range m.Nested {
		c, e := posterior(n, queries)
		if e != api.OK {
			return nil, e
		}
		queries = append(queries, c)
	}
	return queries, api.OK
}

// replaced returns commands in normal form, with tables in the places of draws from nested modules.
func replaced(l []api.Cmd, tables []api.Dist) []api.Cmd {
	return each(l, func(c api.Cmd) api.Cmd {
		c.Dist = replacedDist(c.Dist, tables)
		c.Form, c.Args = normalForm(c.Form), each(c.Args, normalForm)
		c.Then, c.Else = replaced(c.Then, tables), replaced(c.Else, tables)
		return c
	})
}

func replacedDist(d api.Dist, tables []api.Dist) api.Dist {
	if d.Kind == api.DistNested {
		return tables[d.Low]
	}
	if d.Kind == api.DistGeometric || d.Kind == api.DistInterval {
		d.From = rational.Norm(d.From)
	}
	if d.Kind == api.DistInterval {
		d.To = rational.Norm(d.To)
	}
	d.Weights = each(d.Weights, func(w api.Poly) api.Poly {
		p, _ := polynomial.Norm(w)
		return p
	})
	return d
}

func normalForm(f api.Form) api.Form {
	if f.Op == api.FoRat {
		f.Rat = rational.Norm(f.Rat)
	}
	f.Args = each(f.Args, normalForm)
	return f
}

// resolved is the definition of Resolve.
func resolved(m api.Module) (api.Module, api.Errno) {
	if e := core.Validate(m); e != api.OK {
		return api.Module{}, e
	}
	queries, e := posteriors(m)
	if e != api.OK {
		return api.Module{}, e
	}
	var tables []api.Dist
	for i, n := range m.Nested {
		low, high := 0, 1
		if n.Type.Kind == api.TypeInt {
			low, high = n.Type.Low, n.Type.High
		}
		d := api.Dist{Kind: api.DistTable, Low: low}
		for value := low; value <= high; value++ {
			p := queries[i][value]
			if p == nil {
				p = new(big.Rat)
			}
			d.Weights = append(d.Weights, fromBig(p))
		}
		tables = append(tables, d)
	}
	m.Nested, m.Body = nil, replaced(m.Body, tables)
	m.Procs = each(m.Procs, func(p api.Proc) api.Proc {
		p.Body = replaced(p.Body, tables)
		return p
	})
	return m, api.OK
}

// check checks Resolve, and returns its error.
func check(t *testing.T, m api.Module) api.Errno {
	t.Helper()
	want, f := resolved(m)
	got, e := nested.Resolve(m)
	if e != f || !same(got, want) {
		t.Errorf("Resolve(%+v) is %+v with the error %d, not %+v with %d", m, got, e, want, f)
	}
	return e
}
