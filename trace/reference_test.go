package trace_test

import (
	"math"
	"math/big"
	"slices"
	"testing"

	"exactppl/api"
	"exactppl/core"
	"exactppl/trace"
)

// P16.1 to P16.3 by their definitions. Polynomials are computed with math/big, forms by definitions of their own.

// A sum is a polynomial in another representation: its coefficients, some of which may be zero.
type sum map[api.Mono]*big.Rat

func toInt(a []uint32) *big.Int {
	n := new(big.Int)
	for _, limb := range slices.Backward(a) {
		n.Lsh(n, 32).Or(n, new(big.Int).SetUint64(uint64(limb)))
	}
	return n
}

// toBig returns the number that a denotes.
func toBig(a api.Rat) *big.Rat {
	num, den := toInt(a.Num), toInt(a.Den)
	if den.Sign() == 0 {
		return new(big.Rat)
	}
	if a.Neg {
		num.Neg(num)
	}
	return new(big.Rat).SetFrac(num, den)
}

// fromBig returns the normal form of x.
func fromBig(x *big.Rat) api.Rat {
	split := func(n *big.Int) []uint32 {
		var a []uint32
		for n = new(big.Int).Abs(n); n.Sign() > 0; n.Rsh(n, 32) {
			a = append(a, uint32(new(big.Int).And(n, big.NewInt(math.MaxUint32)).Uint64()))
		}
		return a
	}
	return api.Rat{Neg: x.Sign() < 0, Num: split(x.Num()), Den: split(x.Denom())}
}

func (s sum) add(m api.Mono, c *big.Rat) {
	if s[m] == nil {
		s[m] = new(big.Rat)
	}
	s[m].Add(s[m], c)
}

// sumOf returns the polynomial that some polynomials denote together.
func sumOf(l ...api.Poly) sum {
	s := sum{}
	for _, p := range l {
		for _, t := range p {
			s.add(t.Mono, toBig(t.Coef))
		}
	}
	return s
}

func (s sum) times(u sum) sum {
	out := sum{}
	for m, c := range s {
		for n, d := range u {
			both := m
			for v := range n {
				both[v] += n[v]
			}
			out.add(both, new(big.Rat).Mul(c, d))
		}
	}
	return out
}

// normal returns the normal form, with a sort of its own.
func (s sum) normal() api.Poly {
	var p api.Poly
	for m, c := range s {
		if c.Sign() != 0 {
			p = append(p, api.Term{Mono: m, Coef: fromBig(c)})
		}
	}
	slices.SortFunc(p, func(a, b api.Term) int {
		for v := range a.Mono {
			if a.Mono[v] != b.Mono[v] {
				return b.Mono[v] - a.Mono[v]
			}
		}
		return 0
	})
	return p
}

// near returns the number from low to high that is nearest to n.
func near(low, n, high int) int {
	switch {
	case n < low:
		return low
	case n > high:
		return high
	}
	return n
}

// truthOf returns 1 or 0.
func truthOf(holds bool) int {
	if holds {
		return 1
	}
	return 0
}

// valueOf returns the value of a form.
func valueOf(f api.Form, state []int) int {
	limited := func(n int) int { return near(-1<<30, n, 1<<30) }
	a := each(f.Args, func(arg api.Form) int { return valueOf(arg, state) })
	switch f.Op {
	case api.FoInt:
		return limited(f.Int)
	case api.FoVar:
		return limited(state[f.Int])
	case api.FoNot:
		return truthOf(a[0] == 0)
	case api.FoAnd:
		return truthOf(a[0] != 0 && a[1] != 0)
	case api.FoOr:
		return truthOf(a[0] != 0 || a[1] != 0)
	case api.FoEq:
		return truthOf(a[0] == a[1])
	case api.FoLt:
		return truthOf(a[0] < a[1])
	case api.FoLe:
		return truthOf(a[0] <= a[1])
	case api.FoAdd:
		return limited(a[0] + a[1])
	case api.FoSub:
		return limited(a[0] - a[1])
	case api.FoMul:
		return limited(a[0] * a[1])
	case api.FoCond:
		return a[2-truthOf(a[0] != 0)]
	}
	panic("a form that has no value")
}

// execution executes a module with outcomes from a list.
type execution struct {
	m        api.Module
	outcomes []int
	trace    api.Trace
	mass     sum
	failed   api.Errno
	draw     api.Dist // the draw that failed
}

// assign sets a variable to the nearest value of its range.
func (x *execution) assign(i, n int) {
	switch c := x.m.Cells[i]; c.Kind {
	case api.TypeBool:
		n = truthOf(n != 0)
	case api.TypeInt:
		n = near(c.Low, n, c.High)
	case api.TypeNat:
		n = max(0, n)
	}
	x.trace.State[i] = n
}

// over reports whether the run has ended or failed.
func (x *execution) over() bool { return x.trace.End != 0 || x.failed != api.OK }

func (x *execution) run(l []api.Cmd) {
	for _, c := range l {
		if !x.over() {
			x.step(c)
		}
	}
}

func (x *execution) step(c api.Cmd) {
	holds := func() bool { return valueOf(c.Form, x.trace.State) != 0 }
	switch {
	case c.Kind == api.CmdSet:
		before := slices.Clone(x.trace.State)
		for i, out := range c.Outs {
			x.assign(out, valueOf(c.Args[i], before))
		}
	case c.Kind == api.CmdDraw:
		x.choose(c)
	case c.Kind == api.CmdIf && holds():
		x.run(c.Then)
	case c.Kind == api.CmdIf:
		x.run(c.Else)
	case c.Kind == api.CmdObserve && !holds():
		x.trace.End = api.EndRejected
	case c.Kind == api.CmdCut:
		x.trace.End = api.EndCut
	}
}

// choose takes the next element of the list.
func (x *execution) choose(c api.Cmd) {
	x.draw = c.Dist
	if len(x.outcomes) == 0 {
		x.failed = api.ErrTape
		return
	}
	i := x.outcomes[0]
	if i < 0 || i >= len(c.Dist.Weights) {
		x.failed = api.ErrRange
		return
	}
	x.outcomes = x.outcomes[1:]
	x.trace.Choices = append(x.trace.Choices, api.Choice{Site: c.Site, Outcome: i})
	x.mass = x.mass.times(sumOf(c.Dist.Weights[i]))
	x.assign(c.Var, c.Dist.Low+i)
}

// executed returns the execution of a module with a list.
func executed(m api.Module, outcomes []int) *execution {
	x := &execution{m: m, outcomes: outcomes, trace: api.Trace{State: make([]int, len(m.Cells))}, mass: sumOf(constant(1, 1))}
	for i := range m.Cells {
		x.assign(i, 0)
	}
	x.run(m.Body)
	if !x.over() {
		x.trace.End = api.EndAccepted
	}
	x.trace.Mass = x.mass.normal()
	return x
}

// traces returns all traces of a module that begin with a list of outcomes, or more than MaxTraces of them.
func traces(m api.Module, outcomes []int) []api.Trace {
	x := executed(m, outcomes)
	if x.failed != api.ErrTape {
		return []api.Trace{x.trace}
	}
	var l []api.Trace
	for i, w := range x.draw.Weights {
		if len(sumOf(w).normal()) > 0 && len(l) <= api.MaxTraces {
			l = append(l, traces(m, append(slices.Clone(outcomes), i))...)
		}
	}
	return l
}

// total returns the sum of the masses of the traces for which a condition holds.
func total(l []api.Trace, is func(api.Trace) bool) api.Poly {
	s := sum{}
	for _, t := range l {
		if is(t) {
			for m, c := range sumOf(t.Mass) {
				s.add(m, c)
			}
		}
	}
	return s.normal()
}

// measureOf returns the measure of a module with these traces.
func measureOf(m api.Module, l []api.Trace) api.Measure {
	result := func(t api.Trace) []int { return each(m.Outs, func(i int) int { return t.State[i] }) }
	ends := func(end int) func(api.Trace) bool { return func(t api.Trace) bool { return t.End == end } }
	x := api.Measure{Rejected: total(l, ends(api.EndRejected)), Cut: total(l, ends(api.EndCut))}
	for _, t := range l {
		key := result(t)
		known := slices.ContainsFunc(x.Rows, func(r api.Row) bool { return slices.Equal(r.Key, key) })
		mass := total(l, func(u api.Trace) bool { return u.End == api.EndAccepted && slices.Equal(result(u), key) })
		if t.End == api.EndAccepted && !known && len(mass) > 0 {
			x.Rows = append(x.Rows, api.Row{Key: key, Mass: mass})
		}
	}
	slices.SortFunc(x.Rows, func(a, b api.Row) int { return slices.Compare(a.Key, b.Key) })
	return x
}

// every reports whether something holds for all commands of l and in them.
func every(l []api.Cmd, holds func(api.Cmd) bool) bool {
	for _, c := range l {
		if !holds(c) || !every(c.Then, holds) || !every(c.Else, holds) {
			return false
		}
	}
	return true
}

func fractions(f api.Form) int {
	n := truthOf(f.Op == api.FoRat)
	for _, arg := range f.Args {
		n += fractions(arg)
	}
	return n
}

// isEnumerable reports whether a valid module is enumerable.
func isEnumerable(m api.Module) bool {
	return core.Straight(m) && !slices.Contains(m.Cells, real) && every(m.Body, func(c api.Cmd) bool {
		n := fractions(c.Form)
		for _, f := range c.Args {
			n += fractions(f)
		}
		return n == 0 && (c.Kind != api.CmdDraw || c.Dist.Kind == api.DistTable)
	})
}

// moduleError returns the error that all functions have for a module.
func moduleError(m api.Module) api.Errno {
	e := core.Validate(m)
	if e == api.OK && !isEnumerable(m) {
		return api.ErrClass
	}
	return e
}

// checkRun checks Run, and returns its error.
func checkRun(t *testing.T, m api.Module, outcomes []int) api.Errno {
	t.Helper()
	wanted, want := &execution{}, moduleError(m)
	if want == api.OK {
		wanted = executed(m, outcomes)
		want = wanted.failed
	}
	n := len(wanted.trace.Choices)
	if want != api.OK {
		wanted.trace, n = api.Trace{}, 0
	}
	got, taken, e := trace.Run(m, outcomes)
	if e != want || taken != n || !same(got, wanted.trace) {
		t.Errorf("Run(%+v, %v) is %+v, %d, %d, not %+v, %d, %d", m, outcomes, got, taken, e, wanted.trace, n, want)
	}
	return e
}

// check checks all functions, Run with a list of outcomes, and returns their errors.
func check(t *testing.T, m api.Module, outcomes []int) (run, all api.Errno) {
	t.Helper()
	var l []api.Trace
	var x api.Measure
	want := moduleError(m)
	if want == api.OK {
		l = traces(m, nil)
		if len(l) > api.MaxTraces {
			l, want = nil, api.ErrLimit
		}
	}
	if want == api.OK {
		x = measureOf(m, l)
	}
	got, e := trace.All(m)
	if e != want || !same(got, l) {
		t.Errorf("All(%+v) is %+v with the error %d, not %+v with %d", m, got, e, l, want)
	}
	measure, e := trace.Measure(m)
	if e != want || !same(measure, x) {
		t.Errorf("Measure(%+v) is %+v with the error %d, not %+v with %d", m, measure, e, x, want)
	}
	return checkRun(t, m, outcomes), e
}
