package core_test

import (
	"math/big"
	"testing"

	"exactppl/api"
	"exactppl/core"
	"exactppl/lower"
	"exactppl/parser"
)

// P13.6: the meaning of a straight module

// machine runs straight modules whose draws are from tables.
type machine struct {
	cells []api.Cell
	clamp func(c api.Cell, n int) int
	eval  func(f api.Form, state []int) int
	ends  map[string]*big.Rat // the masses of the results, of the rejected runs and of those that were cut
}

// measure returns the masses of the runs of m, which has no parameters.
func (x machine) measure(m api.Module) map[string]*big.Rat {
	x.cells, x.ends = m.Cells, map[string]*big.Rat{}
	state := each(m.Cells, func(c api.Cell) int { return x.clamp(c, 0) })
	x.run(m.Body, state, big.NewRat(1, 1), func(state []int, mass *big.Rat) {
		x.end(show(each(m.Outs, func(i int) int { return state[i] })), mass)
	})
	return x.ends
}

func (x machine) end(what string, mass *big.Rat) {
	if x.ends[what] == nil {
		x.ends[what] = new(big.Rat)
	}
	x.ends[what].Add(x.ends[what], mass)
}

// changed returns the state with a variable set.
func (x machine) changed(state []int, i, n int) []int {
	state = append([]int(nil), state...)
	state[i] = x.clamp(x.cells[i], n)
	return state
}

// run executes the commands of l, and then what follows.
func (x machine) run(l []api.Cmd, state []int, mass *big.Rat, next func(state []int, mass *big.Rat)) {
	if len(l) == 0 {
		next(state, mass)
		return
	}
	c := l[0]
	after := func(state []int, mass *big.Rat) { x.run(l[1:], state, mass, next) }
	switch c.Kind {
	case api.CmdSet:
		set := state
		for i, f := range c.Args {
			set = x.changed(set, c.Outs[i], x.eval(f, state))
		}
		after(set, mass)
	case api.CmdDraw:
		for i, w := range c.Dist.Weights {
			if weight := valueAt(normalPoly(w), nil); weight.Sign() != 0 {
				after(x.changed(state, c.Var, c.Dist.Low+i), weight.Mul(weight, mass))
			}
		}
	case api.CmdIf:
		branch := c.Then
		if x.eval(c.Form, state) == 0 {
			branch = c.Else
		}
		x.run(branch, state, mass, after)
	case api.CmdObserve:
		if x.eval(c.Form, state) == 0 {
			x.end("rejected", mass)
			return
		}
		after(state, mass)
	case api.CmdCut:
		x.end("cut", mass)
	}
}

// withCore runs modules with the functions of core.
func withCore(t *testing.T) machine {
	return machine{clamp: core.Clamp, eval: func(f api.Form, state []int) int {
		n, e := core.Eval(f, state)
		if e != api.OK {
			t.Errorf("Eval(%+v, %v) has the error %d", f, state, e)
		}
		return n
	}}
}

// byDefinition runs modules with the functions of the tests.
func byDefinition() machine {
	return machine{clamp: clamped, eval: func(f api.Form, state []int) int { return int(valueOf(f, state).Int64()) }}
}

func TestMeaningOfRandomModules(t *testing.T) {
	m := newMaker(149)
	done := 0
	for range 4000 {
		x, e := core.Number(m.module(true))
		if e != api.OK || x.Params > 0 || !core.Straight(x) || !hasTables(x) {
			continue
		}
		got, want := withCore(t).measure(x), byDefinition().measure(x)
		if show(got) != show(want) {
			t.Fatalf("the measure of %+v is %v, not %v", x, got, want)
		}
		done++
	}
	if done < 300 {
		t.Errorf("%d modules have a measure", done)
	}
}

// hasTables reports whether all draws are from tables and no form has a fraction or a real variable.
func hasTables(m api.Module) bool {
	for _, c := range flat(m.Body) {
		if c.Kind == api.CmdDraw && c.Dist.Kind != api.DistTable {
			return false
		}
		for _, f := range append(c.Args, c.Form) {
			if l := evalErrors(f, len(m.Cells)); c.Kind != api.CmdDraw && c.Kind != api.CmdCut && f.Op != 0 && len(l) > 0 {
				return false
			}
		}
	}
	return true
}

// lowered returns the module of a program, with its draws numbered.
func lowered(t *testing.T, s string) api.Module {
	t.Helper()
	p, at, e := parser.Parse(s)
	if e != api.OK {
		t.Fatalf("%s: the error at %v is %d", s, at, e)
	}
	m, e := lower.Lower(p)
	if e != api.OK {
		t.Fatalf("%s: the error of Lower is %d", s, e)
	}
	if m, e = core.Number(m); e != api.OK {
		t.Fatalf("%s: the error of Number is %d", s, e)
	}
	return m
}

func TestMeaning(t *testing.T) {
	for s, want := range map[string]string{
		"var x: bool; var y: bool; x ~ flip(1/3); y ~ flip(1/2); observe x || y; return x;":                      "map[[0]:1/3 [1]:1/3 rejected:1/3]", // example 1 of the document
		"var l: list[2] bool; l := push(push([true], false), true); return l;":                                   "map[[1 1 0]:1/1]",                  // example 9
		"var x: bool; var y: bool; x ~ flip(1/2); y ~ flip(1/3); observe x; return x;":                           "map[[1]:1/2 rejected:1/2]",         // example 10
		"var i: int[3, 5]; var j: int[-5, -3]; var k: int[-1, 1]; return i;":                                     "map[[3]:1/1]",
		"var i: int[3, 5]; i := 9; return i;":                                                                    "map[[5]:1/1]",
		"var i: int[-5, -3]; return i;":                                                                          "map[[-3]:1/1]",
		"var i: int[0, 3]; i ~ uniform(-2, 7); return i;":                                                        "map[[0]:3/10 [1]:1/10 [2]:1/10 [3]:1/2]",
		"var i: int[0, 9]; i ~ table(4; 1/6, 0, 5/6); return i;":                                                 "map[[4]:1/6 [6]:5/6]",
		"var n: nat; n := 0 - 4; return n;":                                                                      "map[[0]:1/1]",
		"var a: bool; var b: bool; a ~ flip(1/4); b := !a; if a == b { a := !a; } else { observe b; } return a;": "map[[0]:3/4 rejected:1/4]",
		"var t: (bool, bool); t := (true, false); t := (t.1, t.0); return t;":                                    "map[[0 1]:1/1]",
		"var a: bool; var i: int[0, 9]; a ~ flip(1/4); weight 1/2; if a { i := 3; weight 1/3; } return i;":       "map[[0]:3/8 [3]:1/24 rejected:7/12]",
		"var i: int[0, 1000]; i := 1000000 * 1000000 - 1000000 * 1073; return i;":                                "map[[1000]:1/1]",
	} {
		m := lowered(t, s)
		if got := withCore(t).measure(m); !core.Straight(m) || show(got) != want {
			t.Errorf("the measure of %s is %v, not %s", s, got, want)
		}
	}
}

// All variables of an assignment are set at once; a cut ends the run; what is behind the end of a run is not executed.
func TestMeaningOfModules(t *testing.T) {
	cells := []api.Cell{truth, truth, small}
	for _, c := range []struct {
		l    []api.Cmd
		want string
	}{
		{[]api.Cmd{set(0, num(1)), setAll([]int{0, 1}, variable(1), variable(0))}, "map[[0]:1/1]"},
		{[]api.Cmd{set(0, num(-7))}, "map[[1]:1/1]"},
		{[]api.Cmd{draw(0, table(-3, constant(1, 4), constant(1, 4), constant(1, 4), constant(1, 4)))}, "map[[0]:1/4 [1]:3/4]"},
		{[]api.Cmd{draw(0, fair(2)), branch(variable(0), []api.Cmd{cut}, []api.Cmd{observe(num(0))}), observe(num(0))}, "map[cut:1/2 rejected:1/2]"},
		{[]api.Cmd{draw(2, table(-2, constant(1, 2), constant(1, 3), constant(1, 6))), branch(variable(2), []api.Cmd{set(0, num(1))}, nil), observe(node(api.FoLt, variable(2), num(0)))}, "map[[1]:5/6 rejected:1/6]"},
		{[]api.Cmd{draw(0, fair(2)), draw(1, fair(2)), set(0, node(api.FoAnd, variable(0), variable(1)))}, "map[[0]:3/4 [1]:1/4]"},
		{[]api.Cmd{cut, observe(num(0))}, "map[cut:1/1]"},
	} {
		if got := withCore(t).measure(module(cells, c.l...)); show(got) != c.want {
			t.Errorf("the measure of %+v is %v, not %s", c.l, got, c.want)
		}
	}
}
