package tape_test

import (
	"fmt"
	"math"
	"slices"
	"strings"
	"testing"

	"exactppl/api"
	"exactppl/core"
	"exactppl/measure"
	"exactppl/polynomial"
	"exactppl/rational"
	"exactppl/tape"
	"exactppl/trace"
)

// each returns what change returns for each element of l.
func each[A, B any](l []A, change func(A) B) []B {
	var changed []B
	for _, x := range l {
		changed = append(changed, change(x))
	}
	return changed
}

func num(n int) api.Form { return api.Form{Op: api.FoInt, Int: n} }

func variable(i int) api.Form { return api.Form{Op: api.FoVar, Int: i} }

func node(op int, args ...api.Form) api.Form { return api.Form{Op: op, Args: args} }

func not(f api.Form) api.Form { return node(api.FoNot, f) }

func set(i int, f api.Form) api.Cmd { return setAll([]int{i}, f) }

func setAll(outs []int, args ...api.Form) api.Cmd {
	return api.Cmd{Kind: api.CmdSet, Outs: outs, Args: args}
}

func draw(i int, d api.Dist) api.Cmd { return api.Cmd{Kind: api.CmdDraw, Var: i, Dist: d} }

func observe(f api.Form) api.Cmd { return api.Cmd{Kind: api.CmdObserve, Form: f} }

func branch(f api.Form, yes, no []api.Cmd) api.Cmd {
	return api.Cmd{Kind: api.CmdIf, Form: f, Then: yes, Else: no}
}

var cut = api.Cmd{Kind: api.CmdCut}

func fraction(s string) api.Rat {
	r, e := rational.Parse(s)
	if e != api.OK {
		panic(s)
	}
	return r
}

func constant(s string) api.Poly { return polynomial.Const(fraction(s)) }

// table has the outcomes from low on, with weights that are fractions.
func table(low int, weights ...string) api.Dist {
	return api.Dist{Kind: api.DistTable, Low: low, Weights: each(weights, constant)}
}

// flip draws a variable, which is 1 with a probability.
func flip(i int, p string) api.Cmd {
	return draw(i, table(0, rational.Format(rational.Sub(rational.Int(1), fraction(p))), p))
}

// fair draws a variable from n outcomes.
func fair(i, n int) api.Cmd {
	return draw(i, table(0, slices.Repeat([]string{fmt.Sprint("1/", n)}, n)...))
}

var (
	truth   = api.Cell{Kind: api.TypeBool, High: 1}
	small   = api.Cell{Kind: api.TypeInt, Low: -2, High: 3}
	wide    = api.Cell{Kind: api.TypeInt, High: 20}
	natural = api.Cell{Kind: api.TypeNat}
	real    = api.Cell{Kind: api.TypeReal}
)

// typeOf returns the type whose only cell is c.
func typeOf(c api.Cell) api.Type {
	t := api.Type{Kind: c.Kind}
	if c.Kind == api.TypeInt {
		t.Low, t.High = c.Low, c.High
	}
	return t
}

// module has the draws numbered, and the result in the variable 0.
func module(t *testing.T, cells []api.Cell, l ...api.Cmd) api.Module {
	t.Helper()
	m, e := core.Number(api.Module{Cells: cells, Body: l, Outs: []int{0}, Type: typeOf(cells[0])})
	if e != api.OK {
		t.Fatal("the error of Number is", e)
	}
	return m
}

func textOf(p api.Poly) string {
	s, e := polynomial.Format(p, nil)
	if e != api.OK {
		return fmt.Sprint("error ", e)
	}
	return s
}

// text writes a trace: the choices, the mass, the state, and how it ended.
func text(t api.Trace) string {
	end := map[int]string{api.EndAccepted: "accepted", api.EndRejected: "rejected", api.EndCut: "cut"}[t.End]
	choices := each(t.Choices, func(c api.Choice) string { return fmt.Sprintf("%d:%d", c.Site, c.Outcome) })
	return fmt.Sprintf("%s | %s | %v %s", strings.Join(choices, " "), textOf(t.Mass), t.State, end)
}

// masses writes a measure.
func masses(m api.Measure) string {
	var s strings.Builder
	for _, r := range m.Rows {
		fmt.Fprintf(&s, "%v %s, ", r.Key, textOf(r.Mass))
	}
	fmt.Fprintf(&s, "rejected %s, cut %s", textOf(m.Rejected), textOf(m.Cut))
	return s.String()
}

// wantSample checks what Sample returns: the number of numbers and the trace, or the error.
func wantSample(t *testing.T, m api.Module, base int, numbers []int, want string) {
	t.Helper()
	checkSample(t, m, base, numbers)
	u, n, e := tape.Sample(m, base, numbers)
	got := fmt.Sprintf("%d %s", n, text(u))
	if e != api.OK {
		got = fmt.Sprint("error ", int(e))
	}
	if got != want {
		t.Errorf("Sample with the base %d and the tape %v is %s, not %s", base, numbers, got, want)
	}
}

// wantCount checks what Count returns: the measure, or the error.
func wantCount(t *testing.T, m api.Module, base, n int, want string) {
	t.Helper()
	checkCount(t, m, base, n)
	x, e := tape.Count(m, base, n)
	got := masses(x)
	if e != api.OK {
		got = fmt.Sprint("error ", int(e))
	}
	if got != want {
		t.Errorf("Count with the base %d and tapes of %d numbers is %s, not %s", base, n, got, want)
	}
}

// wantFits checks for which bases from 1 to most Fits reports true.
func wantFits(t *testing.T, m api.Module, most int, want ...int) {
	t.Helper()
	for base := 1; base <= most; base++ {
		checkFits(t, m, base)
		if fits, e := tape.Fits(m, base); e != api.OK || fits != slices.Contains(want, base) {
			t.Errorf("Fits for %+v and the base %d is %v with the error %d", m, base, fits, e)
		}
	}
}

func TestExample(t *testing.T) {
	m := module(t, []api.Cell{truth}, flip(0, "1/3"))
	wantSample(t, m, 3, []int{0}, "1 0:0 | 2/3 | [0] accepted")
	wantSample(t, m, 3, []int{1}, "1 0:0 | 2/3 | [0] accepted")
	wantSample(t, m, 3, []int{2}, "1 0:1 | 1/3 | [1] accepted")
	wantCount(t, m, 3, 1, "[0] 2/3, [1] 1/3, rejected 0, cut 0")
	wantFits(t, m, 12, 3, 6, 9, 12)
}

// The outcome is the least index for which the sum of the weights is greater than the number divided by the base.
func TestOutcomes(t *testing.T) {
	for _, c := range []struct {
		weights string
		want    []int // the outcomes of the numbers from 0 to base - 1
	}{
		{"1", []int{0}}, {"1", []int{0, 0, 0, 0}}, {"0 1", []int{1, 1, 1}}, {"1 0", []int{0, 0, 0}}, {"0 0 1 0", []int{2, 2}},
		{"1/2 1/2", []int{0}}, {"1/2 1/2", []int{0, 1}}, {"1/2 1/2", []int{0, 0, 1}}, {"1/2 1/2", []int{0, 0, 1, 1}}, {"1/2 1/2", []int{0, 0, 0, 1, 1}},
		{"1/3 2/3", []int{0, 1}}, {"2/3 1/3", []int{0, 0}}, {"2/3 1/3", []int{0, 0, 1}}, {"2/3 1/3", []int{0, 0, 0, 1}},
		{"1/6 0 1/2 1/3", []int{0, 2, 2, 2, 3, 3}}, {"1/6 0 1/2 1/3", []int{0, 2, 2, 2, 3}}, {"1/6 0 1/2 1/3", []int{0, 2, 3}}, {"1/6 0 1/2 1/3", []int{0, 0, 2, 2, 2, 2, 2, 2, 3, 3, 3, 3}},
		{"0 1/1000000 999999/1000000", []int{1, 2, 2, 2}}, {"999999/1000000 0 1/1000000", []int{0, 0, 0, 0}},
		{"1/5 1/5 1/5 1/5 1/5", []int{0, 1, 3}}, {"1/5 1/5 1/5 1/5 1/5", []int{0, 0, 1, 2, 2, 3, 4}},
		{"1/16 1/16 1/16 1/16 1/16 1/16 1/16 1/16 1/16 1/16 1/16 1/16 1/16 1/16 1/16 1/16", []int{0, 1, 2, 3, 4, 5, 6, 7, 8, 9, 10, 11, 12, 13, 14, 15}},
	} {
		m := module(t, []api.Cell{wide}, draw(0, table(2, strings.Fields(c.weights)...)))
		base := len(c.want)
		for number, i := range c.want {
			wantSample(t, m, base, []int{number}, fmt.Sprintf("1 0:%d | %s | [%d] accepted", i, strings.Fields(c.weights)[i], i+2))
		}
		wantSample(t, m, base, []int{base}, "error 1")
		wantSample(t, m, base, []int{-1}, "error 1")
	}
}

// The greatest base, and weights next to the multiples of its fractions.
func TestGreatestBase(t *testing.T) {
	for _, c := range []struct {
		first string // weight
		ends  int    // the least number that is not for it
	}{
		{"1/1048576", 1}, {"1/1048577", 1}, {"1/1048575", 2}, {"1048575/1048576", 1048575}, {"1048574/1048575", 1048575}, {"1048575/2097152", 524288}, {"1048577/2097152", 524289}, {"1/2", 524288}, {"1/3", 349526},
		{"349525333333333333333/1048576000000000000000", 349526}, {"349525000000000000000/1048576000000000000000", 349525}, {"349525000000000000001/1048576000000000000000", 349526}, {"349524999999999999999/1048576000000000000000", 349525},
	} {
		m := module(t, []api.Cell{truth}, draw(0, table(0, c.first, rational.Format(rational.Sub(rational.Int(1), fraction(c.first))))))
		for _, number := range []int{0, 1, c.ends - 1, c.ends, c.ends + 1, 1048574, 1048575} {
			if number > 1048575 {
				continue
			}
			checkSample(t, m, 1048576, []int{number})
			u, n, e := tape.Sample(m, 1048576, []int{number})
			if e != api.OK || n != 1 || (u.Choices[0].Outcome == 0) != (number < c.ends) {
				t.Errorf("with the weight %s the number %d leads to %s with the error %d", c.first, number, text(u), e)
			}
		}
	}
}

// branches executes one, two or three draws.
func branches(t *testing.T) api.Module {
	return module(t, []api.Cell{truth, small}, flip(0, "1/2"), branch(variable(0), []api.Cmd{fair(1, 4), observe(variable(1))}, nil), branch(node(api.FoEq, variable(1), num(3)), []api.Cmd{cut}, nil), fair(1, 3))
}

// Only the draws that are executed take numbers. The errors are those of the first draw that has one; numbers that are not taken have none.
func TestSample(t *testing.T) {
	m := branches(t)
	for _, c := range []struct {
		numbers []int
		want    string
	}{
		{nil, "error 13"}, {[]int{}, "error 13"}, {[]int{12}, "error 1"}, {[]int{-1}, "error 1"}, {[]int{12, 12, 12}, "error 1"}, {[]int{math.MaxInt}, "error 1"}, {[]int{math.MinInt, 0}, "error 1"},
		{[]int{5}, "error 13"}, {[]int{5, 12}, "error 1"}, {[]int{5, 11}, "2 0:0 2:2 | 1/6 | [0 2] accepted"}, {[]int{0, 4}, "2 0:0 2:1 | 1/6 | [0 1] accepted"}, {[]int{0, 4, -1, 99}, "2 0:0 2:1 | 1/6 | [0 1] accepted"},
		{[]int{6}, "error 13"}, {[]int{6, 2}, "2 0:1 1:0 | 1/8 | [1 0] rejected"}, {[]int{6, 2, 12}, "2 0:1 1:0 | 1/8 | [1 0] rejected"}, {[]int{6, 9}, "2 0:1 1:3 | 1/8 | [1 3] cut"},
		{[]int{6, 3}, "error 13"}, {[]int{6, 3, 12}, "error 1"}, {[]int{6, 12, 12}, "error 1"}, {[]int{11, 8, 3}, "3 0:1 1:2 2:0 | 1/24 | [1 0] accepted"}, {[]int{11, 3, 8, -5}, "3 0:1 1:1 2:2 | 1/24 | [1 2] accepted"},
	} {
		wantSample(t, m, 12, c.numbers, c.want)
	}
	for _, numbers := range [][]int{nil, {0}, {-1, 7}} {
		wantSample(t, module(t, []api.Cell{small}, set(0, num(2))), 5, numbers, "0  | 1 | [2] accepted")
		wantSample(t, module(t, []api.Cell{small}, set(0, num(2)), cut, fair(0, 2)), 5, numbers, "0  | 1 | [2] cut")
		wantSample(t, module(t, []api.Cell{small}, observe(num(0)), fair(0, 2)), 5, numbers, "0  | 1 | [0] rejected")
	}
}

// The tapes that lead to a result, to a rejected run or to a cut have the same mass, whatever the weights are.
func TestCount(t *testing.T) {
	m := branches(t)
	for _, c := range []struct {
		base, n int
		want    string
	}{
		{12, 3, "[0] 1/2, [1] 1/4, rejected 1/8, cut 1/8"}, {12, 2, "error 13"}, {12, 1, "error 13"}, {12, 0, "error 13"}, {24, 3, "[0] 1/2, [1] 1/4, rejected 1/8, cut 1/8"},
		{1, 0, "error 13"}, {1, 1, "error 13"}, {1, 2, "[0] 1, rejected 0, cut 0"}, {1, 64, "[0] 1, rejected 0, cut 0"}, {1, 65, "error 1"},
		{2, 3, "[0] 1/2, [1] 1/4, rejected 1/4, cut 0"}, {2, 14, "[0] 1/2, [1] 1/4, rejected 1/4, cut 0"}, {2, 15, "error 9"},
		{3, 3, "[0] 2/3, [1] 2/9, rejected 1/9, cut 0"}, {5, 3, "[0] 3/5, [1] 4/25, rejected 4/25, cut 2/25"}, {5, 6, "[0] 3/5, [1] 4/25, rejected 4/25, cut 2/25"}, {4, 3, "[0] 1/2, [1] 1/4, rejected 1/8, cut 1/8"},
		{5, 7, "error 9"}, {20000, 1, "error 13"}, {20001, 1, "error 9"}, {1048576, 0, "error 13"}, {1048576, 1, "error 9"}, {1048576, 64, "error 9"}, {1048576, 65, "error 1"}, {2, -1, "error 1"}, {2, math.MaxInt, "error 1"}, {2, math.MinInt, "error 1"},
	} {
		wantCount(t, m, c.base, c.n, c.want)
	}
	for _, n := range []int{0, 1, 3} {
		wantCount(t, module(t, []api.Cell{small}, set(0, num(-2))), 5, n, "[-2] 1, rejected 0, cut 0")
		wantCount(t, module(t, []api.Cell{small}, observe(num(0)), fair(0, 2)), 5, n, "rejected 1, cut 0")
		wantCount(t, module(t, []api.Cell{small}, cut, fair(0, 2)), 5, n, "rejected 0, cut 1")
	}
	wantCount(t, module(t, []api.Cell{truth}), 1048576, 0, "[0] 1, rejected 0, cut 0")
}

// ErrTape is found wherever the tape is that is used up.
func TestUsedUp(t *testing.T) {
	cells := []api.Cell{wide, truth}
	for _, last := range []int{0, 4, 9} {
		isLast := node(api.FoEq, variable(0), num(last))
		m := module(t, cells, fair(0, 10), branch(isLast, []api.Cmd{flip(1, "1/2")}, nil))
		wantCount(t, m, 10, 1, "error 13")
		for n := 2; n < 5; n++ {
			checkCount(t, m, 10, n)
		}
		m = module(t, cells, fair(0, 10), flip(1, "1/3"), branch(isLast, []api.Cmd{flip(1, "1/2")}, []api.Cmd{cut}))
		wantCount(t, m, 10, 2, "error 13")
		wantCount(t, m, 10, 3, fmt.Sprintf("[%d] 1/10, rejected 0, cut 9/10", last))
	}
	// With the base 3 the last outcome of the first draw has no number, so that no tape needs a second one.
	m := module(t, cells, flip(0, "1/4"), branch(variable(0), []api.Cmd{flip(1, "1/2")}, nil))
	wantCount(t, m, 3, 1, "[0] 1, rejected 0, cut 0")
	wantCount(t, m, 4, 1, "error 13")
	wantCount(t, m, 4, 2, "[0] 3/4, [1] 1/4, rejected 0, cut 0")
}

// The result are the values of Outs in their order; the rows are in the order of the results.
func TestResults(t *testing.T) {
	bools := api.Type{Kind: api.TypeTuple, Elems: []api.Type{typeOf(truth), typeOf(small), typeOf(truth)}}
	m, e := core.Number(api.Module{Cells: []api.Cell{small, truth, truth}, Body: []api.Cmd{flip(1, "1/3"), flip(2, "1/2"), set(0, node(api.FoSub, num(1), node(api.FoMul, num(2), variable(2))))}, Outs: []int{2, 0, 1}, Type: bools})
	if e != api.OK {
		t.Fatal(e)
	}
	wantCount(t, m, 6, 2, "[0 1 0] 1/3, [0 1 1] 1/6, [1 -1 0] 1/3, [1 -1 1] 1/6, rejected 0, cut 0")
	wantCount(t, m, 5, 2, "[0 1 0] 12/25, [0 1 1] 3/25, [1 -1 0] 8/25, [1 -1 1] 2/25, rejected 0, cut 0")
	wantCount(t, module(t, []api.Cell{natural}, draw(0, table(7, "1/2", "1/4", "1/4"))), 4, 1, "[7] 1/2, [8] 1/4, [9] 1/4, rejected 0, cut 0")
	wantCount(t, module(t, []api.Cell{small}, draw(0, table(-7, "1/2", "1/4", "1/4"))), 4, 1, "[-2] 1, rejected 0, cut 0")
}

func TestFits(t *testing.T) {
	cells := []api.Cell{truth, small}
	flips := func(l ...string) api.Module {
		return module(t, cells, each(l, func(p string) api.Cmd { return flip(0, p) })...)
	}
	all := []int{1, 2, 3, 4, 5, 6, 7, 8, 9, 10, 11, 12, 13, 14, 15, 16, 17, 18, 19, 20, 21, 22, 23, 24}
	wantFits(t, flips(), 24, all...)
	wantFits(t, flips("0", "1"), 24, all...)
	wantFits(t, flips("1/2"), 24, 2, 4, 6, 8, 10, 12, 14, 16, 18, 20, 22, 24)
	wantFits(t, flips("1/3", "3/4"), 24, 12, 24)
	wantFits(t, flips("3/4", "1/3", "1/2"), 24, 12, 24)
	wantFits(t, flips("1/10", "1/4"), 24, 20)
	wantFits(t, flips("1/25"), 24)
	wantFits(t, module(t, cells, draw(1, table(0, "1/2", "1/3", "0", "1/6"))), 24, 6, 12, 18, 24)
	wantFits(t, module(t, cells, draw(1, table(0, "0", "1/4", "5/8", "1/8"))), 24, 8, 16, 24)
	// Draws that are never executed have weights, too.
	wantFits(t, module(t, cells, cut, flip(0, "1/5")), 24, 5, 10, 15, 20)
	wantFits(t, module(t, cells, branch(num(0), []api.Cmd{flip(0, "1/7")}, []api.Cmd{branch(num(1), nil, []api.Cmd{flip(0, "1/2")})})), 24, 14)
	m := flips("1/1048576", "1/1024")
	for base, want := range map[int]bool{1048576: true, 524288: false, 1024: false, 1: false} {
		if fits, e := tape.Fits(m, base); e != api.OK || fits != want {
			t.Errorf("Fits for 1/1048576 and the base %d is %v with the error %d", base, fits, e)
		}
	}
	// Denominators beyond the greatest base, and beyond one limb.
	for _, p := range []string{"1/1048577", "1/2097152", "1/4294967296", "1/4294967297", "1/18446744073709551616", "4294967296/18446744073709551617", "1/340282366920938463463374607431768211456"} {
		for _, base := range []int{1, 2, 1024, 65536, 1048576} {
			if fits, e := tape.Fits(flips(p), base); e != api.OK || fits {
				t.Errorf("Fits for %s and the base %d is %v with the error %d", p, base, fits, e)
			}
		}
	}
}

// disguises of the weights 1/2, 0, 1/2: not in lowest terms, with leading zeros, with terms whose sum is zero, with parts.
func disguises() [][]api.Poly {
	half, zero := api.Rat{Num: []uint32{3, 0}, Den: []uint32{6, 0, 0}}, api.Rat{Neg: true, Num: []uint32{5}}
	quarter := api.Rat{Num: []uint32{1}, Den: []uint32{4}}
	high := api.Mono{0, 0, 0, 0, 0, 0, 0, api.MaxExp}
	minus := api.Rat{Neg: true, Num: []uint32{2}, Den: []uint32{8}}
	return [][]api.Poly{
		{{{Coef: half}}, nil, {{Coef: half}}},
		{{{Coef: half}}, {{Coef: zero}}, {{Coef: quarter}, {Coef: quarter}}},
		{{{Coef: half}, {Coef: zero}}, {{Coef: quarter}, {Coef: minus}}, {{Mono: high, Coef: quarter}, {Coef: half}, {Mono: high, Coef: minus}}},
		{{{Mono: high, Coef: zero}, {Coef: quarter}, {Coef: half}, {Coef: minus}}, {{Mono: high, Coef: minus}, {Mono: high, Coef: quarter}}, {{Mono: api.Mono{1}}, {Coef: half}}},
	}
}

// All functions go by what the weights denote.
func TestRepresentations(t *testing.T) {
	for _, weights := range disguises() {
		m := module(t, []api.Cell{wide}, draw(0, table(0, "1/2", "0", "1/2")))
		m.Body[0].Dist.Weights = weights
		for base, want := range map[int]string{1: "[0] 1, ", 2: "[0] 1/2, [2] 1/2, ", 3: "[0] 2/3, [2] 1/3, ", 4: "[0] 1/2, [2] 1/2, "} {
			wantCount(t, m, base, 1, want+"rejected 0, cut 0")
			for number := range base {
				i := map[bool]int{false: 0, true: 2}[2*number >= base]
				wantSample(t, m, base, []int{number}, fmt.Sprintf("1 0:%d | 1/2 | [%d] accepted", i, i))
			}
		}
		wantFits(t, m, 9, 2, 4, 6, 8)
	}
}

// If the base fits, Count is the measure of the module: the first example of the document.
func TestTwoFlips(t *testing.T) {
	m := module(t, []api.Cell{truth, truth}, flip(0, "1/3"), flip(1, "1/2"), observe(node(api.FoOr, variable(0), variable(1))))
	wantCount(t, m, 6, 2, "[0] 1/3, [1] 1/3, rejected 1/3, cut 0")
	wantCount(t, m, 12, 3, "[0] 1/3, [1] 1/3, rejected 1/3, cut 0")
	wantCount(t, m, 2, 2, "[0] 1/2, rejected 1/2, cut 0")
	x, e := tape.Count(m, 6, 4)
	y, f := trace.Measure(m)
	if e != api.OK || f != api.OK || !measure.Equal(x, y) {
		t.Errorf("Count is %s with the error %d, Measure is %s with the error %d", masses(x), e, masses(y), f)
	}
}
