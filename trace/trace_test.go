package trace_test

import (
	"fmt"
	"slices"
	"strings"
	"testing"

	"exactppl/api"
	"exactppl/core"
	"exactppl/polynomial"
	"exactppl/rational"
	"exactppl/trace"
)

// each returns what change returns for each element of l.
func each[A, B any](l []A, change func(A) B) []B {
	var changed []B
	for _, x := range l {
		changed = append(changed, change(x))
	}
	return changed
}

func num(n int) api.Form { return api.Form{Op: api.FoInt, Int: n} }

func variable(i int) api.Form { return api.Form{Op: api.FoVar, Int: i} }

func fraction(num, den int) api.Form { return api.Form{Op: api.FoRat, Rat: ratio(num, den)} }

func node(op int, args ...api.Form) api.Form { return api.Form{Op: op, Args: args} }

func not(f api.Form) api.Form { return node(api.FoNot, f) }

func set(i int, f api.Form) api.Cmd { return setAll([]int{i}, f) }

func setAll(outs []int, args ...api.Form) api.Cmd {
	return api.Cmd{Kind: api.CmdSet, Outs: outs, Args: args}
}

func draw(i int, d api.Dist) api.Cmd { return api.Cmd{Kind: api.CmdDraw, Var: i, Dist: d} }

func flip(i int) api.Cmd { return draw(i, fair(2)) }

func observe(f api.Form) api.Cmd { return api.Cmd{Kind: api.CmdObserve, Form: f} }

func branch(f api.Form, yes, no []api.Cmd) api.Cmd {
	return api.Cmd{Kind: api.CmdIf, Form: f, Then: yes, Else: no}
}

var cut = api.Cmd{Kind: api.CmdCut}

func ratio(num, den int) api.Rat {
	r, _ := rational.New(num, den)
	return r
}

func constant(num, den int) api.Poly { return polynomial.Const(ratio(num, den)) }

// power is a parameter to the power n.
func power(parameter, n int) api.Poly {
	p, _ := polynomial.Var(parameter)
	p[0].Mono[parameter] = n
	return p
}

// others is 1 minus all these polynomials.
func others(l ...api.Poly) api.Poly {
	p := constant(1, 1)
	for _, q := range l {
		p, _ = polynomial.Sub(p, q)
	}
	return p
}

// table has the outcomes from low on.
func table(low int, weights ...api.Poly) api.Dist {
	return api.Dist{Kind: api.DistTable, Low: low, Weights: weights}
}

// fair has n outcomes from 0 on.
func fair(n int) api.Dist { return table(0, slices.Repeat([]api.Poly{constant(1, n)}, n)...) }

var (
	truth   = api.Cell{Kind: api.TypeBool, High: 1}
	small   = api.Cell{Kind: api.TypeInt, Low: -2, High: 3}
	natural = api.Cell{Kind: api.TypeNat}
	real    = api.Cell{Kind: api.TypeReal}
	boolean = api.Type{Kind: api.TypeBool}
)

// module has three parameters, the draws numbered, and the result in the variable 0.
func module(t *testing.T, cells []api.Cell, l ...api.Cmd) api.Module {
	t.Helper()
	kind := api.Type{Kind: cells[0].Kind, Low: cells[0].Low, High: cells[0].High}
	if cells[0].Kind == api.TypeBool {
		kind = boolean
	}
	return numbered(t, api.Module{Params: 3, Cells: cells, Body: l, Outs: []int{0}, Type: kind})
}

func numbered(t *testing.T, m api.Module) api.Module {
	t.Helper()
	m, e := core.Number(m)
	if e != api.OK {
		t.Fatal("the error of Number is", e)
	}
	return m
}

func textOf(p api.Poly) string {
	s, e := polynomial.Format(p, []string{"p", "q", "r"})
	if e != api.OK {
		return fmt.Sprint("error ", e)
	}
	return s
}

// text writes a trace: the choices, the mass, the state, and how it ended.
func text(t api.Trace) string {
	end := map[int]string{api.EndAccepted: "accepted", api.EndRejected: "rejected", api.EndCut: "cut"}[t.End]
	choices := each(t.Choices, func(c api.Choice) string { return fmt.Sprintf("%d:%d", c.Site, c.Outcome) })
	return fmt.Sprintf("%s | %s | %v %s", strings.Join(choices, " "), textOf(t.Mass), t.State, end)
}

// masses writes a measure.
func masses(m api.Measure) string {
	var s strings.Builder
	for _, r := range m.Rows {
		fmt.Fprintf(&s, "%v %s, ", r.Key, textOf(r.Mass))
	}
	fmt.Fprintf(&s, "rejected %s, cut %s", textOf(m.Rejected), textOf(m.Cut))
	return s.String()
}

// want checks the traces and the measure of a module by the definitions, and then their texts.
func want(t *testing.T, m api.Module, measure string, traces ...string) {
	t.Helper()
	check(t, m, nil)
	l, e := trace.All(m)
	if got := each(l, text); e != api.OK || !slices.Equal(got, traces) {
		t.Errorf("the traces of %+v are\n%s\nwith the error %d, not\n%s", m, strings.Join(got, "\n"), e, strings.Join(traces, "\n"))
	}
	x, e := trace.Measure(m)
	if got := masses(x); e != api.OK || got != measure {
		t.Errorf("the measure of %+v is %s with the error %d, not %s", m, got, e, measure)
	}
}

// twoFlips is the example of the chapter.
func twoFlips(t *testing.T) api.Module {
	return module(t, []api.Cell{truth, truth}, draw(0, table(0, constant(2, 3), constant(1, 3))), flip(1), observe(node(api.FoOr, variable(0), variable(1))))
}

func TestExample(t *testing.T) {
	want(t, twoFlips(t), "[0] 1/3, [1] 1/3, rejected 1/3, cut 0",
		"0:0 1:0 | 1/3 | [0 0] rejected", "0:0 1:1 | 1/3 | [0 1] accepted", "0:1 1:0 | 1/6 | [1 0] accepted", "0:1 1:1 | 1/6 | [1 1] accepted")
}

// Modules without draws have one trace, with the mass 1. It ends where it is rejected or cut.
func TestNoDraws(t *testing.T) {
	cells := []api.Cell{small, truth}
	sets := func(l ...api.Cmd) []api.Cmd {
		return slices.Concat([]api.Cmd{set(0, num(2))}, l, []api.Cmd{set(0, num(3))})
	}
	want(t, module(t, cells), "[0] 1, rejected 0, cut 0", " | 1 | [0 0] accepted")
	want(t, module(t, cells, sets()...), "[3] 1, rejected 0, cut 0", " | 1 | [3 0] accepted")
	want(t, module(t, cells, sets(observe(num(-7)))...), "[3] 1, rejected 0, cut 0", " | 1 | [3 0] accepted")
	want(t, module(t, cells, sets(observe(variable(1)))...), "rejected 1, cut 0", " | 1 | [2 0] rejected")
	want(t, module(t, cells, sets(cut)...), "rejected 0, cut 1", " | 1 | [2 0] cut")
	want(t, module(t, cells, sets(cut, observe(num(0)))...), "rejected 0, cut 1", " | 1 | [2 0] cut")
	want(t, module(t, cells, sets(observe(num(0)), cut)...), "rejected 1, cut 0", " | 1 | [2 0] rejected")
	want(t, module(t, cells, sets(branch(num(1), []api.Cmd{set(1, num(1)), cut, set(1, num(0))}, nil))...), "rejected 0, cut 1", " | 1 | [2 1] cut")
	want(t, module(t, cells, sets(branch(num(0), nil, []api.Cmd{set(1, num(1)), observe(num(0)), set(1, num(0))}))...), "rejected 1, cut 0", " | 1 | [2 1] rejected")
	for i, outcomes := range [][]int{nil, {0}, {-1, 7}} {
		checkRun(t, module(t, cells, sets()...), outcomes)
		if x, n, e := trace.Run(module(t, cells, sets(cut)...), outcomes); n != 0 || e != api.OK || text(x) != " | 1 | [2 0] cut" {
			t.Errorf("%d: the run is %s, it takes %d, the error is %d", i, text(x), n, e)
		}
	}
}

// A run begins with the number of each range that is nearest to 0, and every value is brought into its range.
func TestRanges(t *testing.T) {
	cells := []api.Cell{{Kind: api.TypeInt, Low: 4, High: 9}, {Kind: api.TypeInt, Low: -9, High: -4}, small, truth, natural}
	want(t, module(t, cells), "[4] 1, rejected 0, cut 0", " | 1 | [4 -4 0 0 0] accepted")
	l := []api.Cmd{}
	for i := range cells {
		l = append(l, set(i, num(-1000000)))
	}
	want(t, module(t, cells, l...), "[4] 1, rejected 0, cut 0", " | 1 | [4 -9 -2 1 0] accepted")
	for i := range l {
		l[i] = set(i, num(1<<62))
	}
	want(t, module(t, cells, l...), "[9] 1, rejected 0, cut 0", " | 1 | [9 -4 3 1 1073741824] accepted")
	for i := range l {
		l[i] = draw(i, table(5, constant(1, 1)))
	}
	want(t, module(t, cells, l...), "[5] 1, rejected 0, cut 0", "0:0 1:0 2:0 3:0 4:0 | 1 | [5 -4 3 1 5] accepted")
	for i := range l {
		l[i] = draw(i, table(-8, constant(1, 1)))
	}
	want(t, module(t, cells, l...), "[4] 1, rejected 0, cut 0", "0:0 1:0 2:0 3:0 4:0 | 1 | [4 -8 -2 1 0] accepted")
}

// Variables are set all at once, to values in the state before.
func TestAssignments(t *testing.T) {
	cells := []api.Cell{small, small, small}
	want(t, module(t, cells, setAll([]int{0, 1, 2}, num(1), num(2), num(3)), setAll([]int{2, 0, 1}, variable(0), variable(1), node(api.FoSub, variable(2), variable(0)))), "[2] 1, rejected 0, cut 0", " | 1 | [2 2 1] accepted")
	want(t, module(t, cells, setAll([]int{1, 0}, num(9), variable(1)), setAll([]int{2, 1}, node(api.FoAdd, variable(1), variable(1)), num(-9))), "[0] 1, rejected 0, cut 0", " | 1 | [0 -2 3] accepted")
}

// Only the draws in the branch that is executed are choices. What follows a condition follows both branches.
func TestBranches(t *testing.T) {
	l := []api.Cmd{
		flip(0),
		branch(variable(0), []api.Cmd{draw(1, fair(3)), branch(variable(1), nil, []api.Cmd{cut}), flip(2)}, []api.Cmd{branch(num(1), []api.Cmd{observe(num(1))}, []api.Cmd{flip(1)})}),
		draw(1, table(1, constant(3, 4), constant(1, 4))),
	}
	want(t, module(t, []api.Cell{truth, small, truth}, l...), "[0] 1/2, [1] 1/3, rejected 0, cut 1/6",
		"0:0 4:0 | 3/8 | [0 1 0] accepted", "0:0 4:1 | 1/8 | [0 2 0] accepted", "0:1 1:0 | 1/6 | [1 0 0] cut",
		"0:1 1:1 2:0 4:0 | 1/16 | [1 1 0] accepted", "0:1 1:1 2:0 4:1 | 1/48 | [1 2 0] accepted", "0:1 1:1 2:1 4:0 | 1/16 | [1 1 1] accepted", "0:1 1:1 2:1 4:1 | 1/48 | [1 2 1] accepted",
		"0:1 1:2 2:0 4:0 | 1/16 | [1 1 0] accepted", "0:1 1:2 2:0 4:1 | 1/48 | [1 2 0] accepted", "0:1 1:2 2:1 4:0 | 1/16 | [1 1 1] accepted", "0:1 1:2 2:1 4:1 | 1/48 | [1 2 1] accepted")
}

// All leaves out the outcomes whose weights denote zero, also those that are not written so. Run does not.
func TestZeroWeights(t *testing.T) {
	p := power(0, 1)
	hidden := append(slices.Clone(p), api.Term{Mono: p[0].Mono, Coef: ratio(-1, 1)}, api.Term{Coef: api.Rat{Neg: true, Num: []uint32{3}}})
	for _, zero := range []api.Poly{nil, {}, {{}}, {{Coef: ratio(0, 1)}}, hidden} {
		m := module(t, []api.Cell{small, truth}, draw(0, table(-1, zero, constant(1, 2), zero, zero, constant(1, 2), zero)), draw(1, table(0, zero, constant(1, 1))))
		m.Body[0].Dist.Weights[0], m.Body[1].Dist.Weights[0] = zero, zero // and not its normal form
		want(t, m, "[0] 1/2, [3] 1/2, rejected 0, cut 0", "0:1 1:1 | 1/2 | [0 1] accepted", "0:4 1:1 | 1/2 | [3 1] accepted")
		for first := range 6 {
			for second := range 2 {
				checkRun(t, m, []int{first, second})
				isZero := first%3 != 1 || second == 0
				if x, n, e := trace.Run(m, []int{first, second}); e != api.OK || n != 2 || (len(x.Mass) == 0) != isZero {
					t.Errorf("Run with %d, %d is %s, it takes %d, the error is %d", first, second, text(x), n, e)
				}
			}
		}
	}
}

// The masses of a result, of the rejected traces and of those that were cut can add up to zero, although none of them is zero.
func TestMassesThatCancel(t *testing.T) {
	p := power(0, 1)
	minus, _ := polynomial.Sub(p, constant(1, 1))
	d := table(0, minus, others(p), constant(1, 1))
	isTwo := node(api.FoEq, variable(1), num(2))
	cells := []api.Cell{truth, small}
	want(t, module(t, cells, draw(1, d), set(0, isTwo)), "[1] 1, rejected 0, cut 0", "0:0 | p - 1 | [0 0] accepted", "0:1 | -p + 1 | [0 1] accepted", "0:2 | 1 | [1 2] accepted")
	want(t, module(t, cells, draw(1, d), observe(isTwo)), "[0] 1, rejected 0, cut 0", "0:0 | p - 1 | [0 0] rejected", "0:1 | -p + 1 | [0 1] rejected", "0:2 | 1 | [0 2] accepted")
	want(t, module(t, cells, draw(1, d), branch(isTwo, nil, []api.Cmd{cut})), "[0] 1, rejected 0, cut 0", "0:0 | p - 1 | [0 0] cut", "0:1 | -p + 1 | [0 1] cut", "0:2 | 1 | [0 2] accepted")
	want(t, module(t, cells, draw(1, d), observe(not(isTwo))), "rejected 1, cut 0", "0:0 | p - 1 | [0 0] accepted", "0:1 | -p + 1 | [0 1] accepted", "0:2 | 1 | [0 2] rejected")
}

// The weights are polynomials, in any representation; the masses are in normal form.
func TestParameters(t *testing.T) {
	p, q := power(0, 1), power(1, 2)
	want(t, module(t, []api.Cell{truth, truth}, draw(0, table(0, others(p), p)), draw(1, table(0, others(q), q)), observe(node(api.FoEq, variable(0), variable(1)))),
		"[0] p*q^2 - p - q^2 + 1, [1] p*q^2, rejected -2*p*q^2 + p + q^2, cut 0",
		"0:0 1:0 | p*q^2 - p - q^2 + 1 | [0 0] accepted", "0:0 1:1 | -p*q^2 + q^2 | [0 1] rejected", "0:1 1:0 | -p*q^2 + p | [1 0] rejected", "0:1 1:1 | p*q^2 | [1 1] accepted")
	m := module(t, []api.Cell{truth}, draw(0, table(0, others(p), p)))
	m.Body[0].Dist.Weights = []api.Poly{
		{{Coef: api.Rat{Num: []uint32{2, 0}, Den: []uint32{4}}}, {Mono: api.Mono{1}, Coef: api.Rat{Neg: true, Num: []uint32{7}, Den: []uint32{7}}}, {Coef: ratio(1, 2)}},
		{{Mono: api.Mono{0, 1024}, Coef: ratio(1, 1)}, {Mono: api.Mono{1}, Coef: ratio(1, 3)}, {Mono: api.Mono{0, 1024}, Coef: ratio(-1, 1)}, {Mono: api.Mono{1}, Coef: ratio(2, 3)}},
	}
	want(t, m, "[0] -p + 1, [1] p, rejected 0, cut 0", "0:0 | -p + 1 | [0] accepted", "0:1 | p | [1] accepted")
	l, _ := trace.All(m)
	if !same(l[0].Mass, others(p)) || !same(l[1].Mass, p) {
		t.Errorf("the masses %+v and %+v are not in normal form", l[0].Mass, l[1].Mass)
	}
	if x, n, e := trace.Run(m, []int{1}); n != 1 || e != api.OK || !same(x.Mass, p) {
		t.Errorf("the mass %+v is not in normal form", x.Mass)
	}
}

// The result are the values of Outs in their order; a variable may occur several times.
func TestResults(t *testing.T) {
	bools := api.Type{Kind: api.TypeTuple, Elems: []api.Type{boolean, {Kind: api.TypeInt, Low: -2, High: 3}, boolean, boolean}}
	m := numbered(t, api.Module{Cells: []api.Cell{small, truth, truth}, Body: []api.Cmd{flip(1), flip(2), set(0, node(api.FoSub, variable(1), node(api.FoMul, num(2), variable(2))))}, Outs: []int{2, 0, 1, 2}, Type: bools})
	want(t, m, "[0 0 0 0] 1/4, [0 1 1 0] 1/4, [1 -2 0 1] 1/4, [1 -1 1 1] 1/4, rejected 0, cut 0",
		"0:0 1:0 | 1/4 | [0 0 0] accepted", "0:0 1:1 | 1/4 | [-2 0 1] accepted", "0:1 1:0 | 1/4 | [1 1 0] accepted", "0:1 1:1 | 1/4 | [-1 1 1] accepted")
}

// Run takes the elements in order, one for each draw that is executed. Its errors are those of the first draw that has one.
func TestRun(t *testing.T) {
	m := module(t, []api.Cell{truth, small}, flip(0), branch(variable(0), []api.Cmd{draw(1, fair(4)), observe(variable(1))}, nil), draw(1, fair(3)))
	for _, c := range []struct {
		outcomes []int
		want     string
	}{
		{nil, "13"}, {[]int{2}, "1"}, {[]int{-1}, "1"}, {[]int{2, 0, 0}, "1"}, {[]int{1 << 62}, "1"}, {[]int{-1 << 63, 1}, "1"},
		{[]int{0}, "13"}, {[]int{0, 3}, "1"}, {[]int{0, 2}, "2 0:0 2:2 | 1/6 | [0 2] accepted"}, {[]int{0, 2, -1, 99}, "2 0:0 2:2 | 1/6 | [0 2] accepted"},
		{[]int{1}, "13"}, {[]int{1, 3}, "13"}, {[]int{1, 4}, "1"}, {[]int{1, 4, 1}, "1"}, {[]int{1, 0}, "2 0:1 1:0 | 1/8 | [1 0] rejected"}, {[]int{1, 0, 7}, "2 0:1 1:0 | 1/8 | [1 0] rejected"},
		{[]int{1, 3, 0}, "3 0:1 1:3 2:0 | 1/24 | [1 0] accepted"}, {[]int{1, 3, 3}, "1"}, {[]int{1, 3, 1, 0}, "3 0:1 1:3 2:1 | 1/24 | [1 1] accepted"},
	} {
		checkRun(t, m, c.outcomes)
		x, n, e := trace.Run(m, c.outcomes)
		got := fmt.Sprint(n, " ", text(x))
		if e != api.OK {
			got = fmt.Sprint(int(e))
		}
		if got != c.want || e != api.OK && (n != 0 || !same(x, api.Trace{})) {
			t.Errorf("Run with %v is %d %s with the error %d, not %s", c.outcomes, n, text(x), e, c.want)
		}
	}
}
