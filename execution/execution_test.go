package execution_test

import (
	"math/rand/v2"
	"slices"
	"testing"

	"exactppl/api"
	"exactppl/core"
	"exactppl/execution"
	"exactppl/polynomial"
	"exactppl/rational"
)

func num(n int) api.Form { return api.Form{Op: api.FoInt, Int: n} }

func variable(i int) api.Form { return api.Form{Op: api.FoVar, Int: i} }

func node(op int, args ...api.Form) api.Form { return api.Form{Op: op, Args: args} }

func set(i int, f api.Form) api.Cmd {
	return api.Cmd{Kind: api.CmdSet, Outs: []int{i}, Args: []api.Form{f}}
}

// fair draws a variable from n outcomes.
func fair(i, n int) api.Cmd {
	r, _ := rational.New(1, n)
	weights := slices.Repeat([]api.Poly{polynomial.Const(r)}, n)
	return api.Cmd{Kind: api.CmdDraw, Var: i, Dist: api.Dist{Kind: api.DistTable, Weights: weights}}
}

func branch(f api.Form, yes, no []api.Cmd) api.Cmd {
	return api.Cmd{Kind: api.CmdIf, Form: f, Then: yes, Else: no}
}

// program has runs with one to four draws, which end in all ways.
func program(t *testing.T) execution.Program {
	t.Helper()
	digit := api.Cell{Kind: api.TypeInt, High: 9}
	isBelow := func(i, n int) api.Form { return node(api.FoLt, variable(i), num(n)) }
	m, e := core.Number(api.Module{
		Cells: []api.Cell{digit, digit, digit, digit},
		Body: []api.Cmd{
			set(3, num(1)), fair(0, 3), set(3, node(api.FoAdd, variable(3), variable(0))),
			branch(isBelow(0, 2), []api.Cmd{fair(1, 3), set(1, node(api.FoAdd, variable(1), variable(3)))}, []api.Cmd{branch(isBelow(3, 9), []api.Cmd{fair(2, 2)}, nil), set(0, num(7))}),
			branch(isBelow(1, 1), []api.Cmd{fair(2, 4), {Kind: api.CmdObserve, Form: variable(2)}, branch(isBelow(2, 2), []api.Cmd{{Kind: api.CmdCut}}, nil)}, []api.Cmd{set(1, num(5))}),
			fair(3, 2),
		},
		Outs: []int{0},
		Type: api.Type{Kind: api.TypeInt, High: 9},
	})
	if e != api.OK {
		t.Fatal("the error of Number is", e)
	}
	p, e := execution.Enumerable(m)
	if e != api.OK {
		t.Fatal("the error is", e)
	}
	return p
}

func sameTrace(a, b api.Trace) bool {
	return slices.Equal(a.Choices, b.Choices) && slices.Equal(a.State, b.State) && a.End == b.End
}

// A run that has gone back is the same as one that made the choices that are left only.
func TestBack(t *testing.T) {
	p, r := program(t), rand.New(rand.NewPCG(178, 179))
	run, ends := p.Start(), map[int]int{}
	for range 20000 {
		if run.Draw != nil && r.IntN(4) > 0 {
			run.Choose(r.IntN(len(run.Draw.Dist.Weights)))
		} else {
			n := r.IntN(len(run.Choices) + 2)
			before := slices.Clone(run.Choices)
			run.Back(n)
			if !slices.Equal(run.Choices, before[:min(n, len(before))]) {
				t.Fatalf("the choices %v become %v", before, run.Choices)
			}
		}
		fresh := p.Start()
		for _, c := range run.Choices {
			fresh.Choose(c.Outcome)
		}
		if !sameTrace(run.Trace, fresh.Trace) || run.Draw != fresh.Draw || (run.Draw == nil) != (run.End != 0) {
			t.Fatalf("the run is %+v, not %+v", run, fresh)
		}
		ends[run.End]++
	}
	if min(ends[0], ends[api.EndAccepted], ends[api.EndRejected], ends[api.EndCut]) < 300 {
		t.Errorf("the runs end %v", ends)
	}
}

// Traces that are kept do not change, also if the run goes back and on.
func TestKeptStates(t *testing.T) {
	p := program(t)
	run := p.Start()
	var kept, copies [][]int
	for range 4 {
		for range 2 {
			for run.Draw != nil {
				run.Choose(len(run.Choices) % 2)
			}
			kept, copies = append(kept, run.State), append(copies, slices.Clone(run.State))
			run.Back(1)
		}
		run.Back(0)
	}
	if !slices.EqualFunc(kept, copies, slices.Equal) {
		t.Errorf("the states were %v and are %v", copies, kept)
	}
}

func TestTally(t *testing.T) {
	trace := func(end, mass int, state ...int) api.Trace {
		return api.Trace{Mass: polynomial.Const(rational.Int(mass)), State: state, End: end}
	}
	tally := execution.Tally{Outs: []int{2, 0}}
	for _, x := range []api.Trace{
		trace(api.EndAccepted, 1, 5, 6, 7), trace(api.EndCut, 2, 5, 6, 7), trace(api.EndAccepted, 3, -1, 6, 8), trace(api.EndRejected, 4, 0, 0, 0),
		trace(api.EndAccepted, 5, 5, 9, 7), trace(api.EndRejected, 6, 5, 6, 7), trace(api.EndAccepted, 7, 2, 2, 2), trace(api.EndAccepted, -7, 2, 1, 2), trace(api.EndCut, 8, 0, 0, 0),
	} {
		tally.Add(x)
	}
	m, e := tally.Measure()
	constant := func(n int) api.Poly { return polynomial.Const(rational.Int(n)) }
	isRow := func(i, mass int, key ...int) bool {
		return slices.Equal(m.Rows[i].Key, key) && polynomial.Equal(m.Rows[i].Mass, constant(mass))
	}
	if e != api.OK || len(m.Rows) != 2 || !isRow(0, 6, 7, 5) || !isRow(1, 3, 8, -1) || !polynomial.Equal(m.Rejected, constant(10)) || !polynomial.Equal(m.Cut, constant(10)) {
		t.Errorf("the measure is %+v with the error %d", m, e)
	}
	if m, e := (&execution.Tally{Outs: []int{0}}).Measure(); e != api.OK || len(m.Rows)+len(m.Rejected)+len(m.Cut) > 0 {
		t.Errorf("the measure without traces is %+v with the error %d", m, e)
	}
}

// The errors of Enumerable are examined by the tests of layers 16 and 17 in detail.
func TestEnumerable(t *testing.T) {
	m := api.Module{Cells: []api.Cell{{Kind: api.TypeReal}}, Outs: []int{0}, Type: api.Type{Kind: api.TypeReal}}
	if p, e := execution.Enumerable(m); e != api.ErrClass || len(p.Dists) > 0 {
		t.Error("the error of a real cell is", e)
	}
	if _, e := execution.Enumerable(api.Module{}); e != api.ErrForm {
		t.Error("the error of no module is", e)
	}
}
