package nested_test

import (
	"fmt"
	"math/big"
	"slices"
	"testing"

	"exactppl/api"
	"exactppl/core"
	"exactppl/lower"
	"exactppl/measure"
	"exactppl/nested"
	"exactppl/parser"
	"exactppl/polynomial"
	"exactppl/trace"
	"exactppl/unfold"
)

// P18.3, and what tables mean for the modules that draw from them

// The result is valid and has no nested modules. Resolving twice is resolving once.
func TestTwice(t *testing.T) {
	m := newMaker(185)
	done := 0
	for range 1500 {
		x := m.argument()
		n, e := nested.Resolve(x)
		if e != api.OK {
			continue
		}
		if e := core.Validate(n); e != api.OK {
			t.Fatalf("Resolve of %+v is %+v with the error %d", x, n, e)
		}
		commands := flat(n.Body)
		for _, p := range n.Procs {
			commands = append(commands, flat(p.Body)...)
		}
		if len(n.Nested) > 0 || slices.ContainsFunc(commands, func(c api.Cmd) bool { return c.Dist.Kind == api.DistNested }) {
			t.Fatalf("Resolve of %+v is %+v", x, n)
		}
		again, e := nested.Resolve(n)
		if e != api.OK || !same(again, n) {
			t.Fatalf("Resolve of %+v is %+v, and then %+v with the error %d", x, n, again, e)
		}
		done++
	}
	if done < 700 {
		t.Errorf("there are %d results", done)
	}
}

// wantSame checks that a module is resolved to another one.
func wantSame(t *testing.T, what string, m, want api.Module) {
	t.Helper()
	if n, e := nested.Resolve(m); e != api.OK || !same(n, want) {
		t.Fatalf("%s: Resolve of %+v is %+v with the error %d, not %+v", what, m, n, e, want)
	}
}

// A nested module that draws its result from its table has the same table, and so has one that draws from another one.
func TestTablesOfTables(t *testing.T) {
	m := newMaker(186)
	done := 0
	for range 1000 {
		x := m.module()
		want, e := nested.Resolve(x)
		if e != api.OK || len(x.Nested) == 0 {
			continue
		}
		i := m.IntN(len(x.Nested))
		out := x.Nested[i].Outs[0]
		tables, _ := nested.Resolve(drawing(x.Nested...))
		y := copyOf(x)
		y.Nested[i].Body = []api.Cmd{draw(out, tables.Body[i].Dist)}
		wantSame(t, "a draw from a table", y, want)
		if i > 0 && same(x.Nested[i].Type, x.Nested[0].Type) {
			y.Nested[i].Body = []api.Cmd{from(out, 0)}
			tables, e := nested.Resolve(drawing(y.Nested...))
			if e != api.OK || !same(tables.Body[i].Dist, tables.Body[0].Dist) {
				t.Fatalf("the tables of %+v are %+v with the error %d", y, tables, e)
			}
		}
		done++
	}
	if done < 400 {
		t.Errorf("there are %d modules", done)
	}
}

// Resolve can be exchanged with At and Number, and keeps the class.
func TestOtherFunctions(t *testing.T) {
	m := newMaker(187)
	done, points := 0, 0
	for range 1000 {
		x := m.module()
		n, e := nested.Resolve(x)
		if e != api.OK {
			continue
		}
		c, e := core.Class(x)
		if d, f := core.Class(n); c != d || e != f {
			t.Fatalf("the class of %+v is %d, that of %+v is %d", x, c, n, d)
		}
		numbered, e := core.Number(x)
		if e != api.OK {
			t.Fatalf("the error of Number of %+v is %d", x, e)
		}
		want, _ := core.Number(n)
		wantSame(t, "Number", numbered, want)
		point := many(m, x.Params, x.Params, func() api.Rat { return m.ratio(m.IntN(3), 20) })
		fixed, e := core.At(x, point)
		if want, f := core.At(n, point); f != e {
			t.Fatalf("the errors of At(%+v, %v) are %d and %d", x, point, e, f)
		} else if e == api.OK {
			wantSame(t, "At", fixed, want)
			points += x.Params
		}
		done++
	}
	if done < 350 || points < 150 {
		t.Errorf("there are %d modules and %d values of parameters", done, points)
	}
}

// The results of a module without loops have the probabilities that its runs have, if each draw from a nested module is one from its posterior.
func TestResults(t *testing.T) {
	m := newMaker(188)
	done := 0
	for range 2500 {
		x := m.module()
		x.Params, x.Procs = 0, nil
		isPlain := !slices.Contains(x.Cells, real) && !slices.ContainsFunc(flat(x.Body), func(c api.Cmd) bool {
			return c.Kind == api.CmdWhile || c.Kind == api.CmdCall || c.Kind == api.CmdCut || c.Dist.Kind == api.DistGeometric
		})
		n, e := nested.Resolve(x)
		if e != api.OK || !isPlain {
			continue
		}
		n, _ = core.Number(n)
		got, e := trace.Measure(n)
		if e != api.OK {
			continue
		}
		queries, _ := posteriors(x)
		want, _ := results(x, queries)
		for _, r := range got.Rows {
			if p := want[r.Key[0]]; p == nil || !same(fromBig(p), r.Mass) {
				t.Fatalf("the mass of %d in %+v is %+v, not %v", r.Key[0], x, r.Mass, p)
			}
		}
		if len(got.Rows) != len(want) {
			t.Fatalf("the rows for %+v are %+v, not %v", x, got.Rows, want)
		}
		done++
	}
	if done < 300 {
		t.Errorf("there are %d measures", done)
	}
}

// posteriorOf returns the posterior of a program, with k unfoldings.
func posteriorOf(t *testing.T, program string, k int) string {
	t.Helper()
	p, at, e := parser.Parse(program)
	if e != api.OK {
		t.Fatalf("%s: the error at %v is %d", program, at, e)
	}
	m, e := lower.Lower(p)
	if e != api.OK {
		t.Fatalf("%s: the error of Lower is %d", program, e)
	}
	check(t, m)
	if m, e = nested.Resolve(m); e != api.OK {
		return fmt.Sprint("error ", int(e))
	}
	if m, e = unfold.Unfold(m, k); e != api.OK {
		t.Fatalf("%s: the error of Unfold is %d", program, e)
	}
	x, e := trace.Measure(m)
	if e != api.OK {
		t.Fatalf("%s: the error of Measure is %d", program, e)
	}
	x.Rejected, x.Cut = polynomial.Const(fraction("0")), nil
	l, e := measure.Posterior(x)
	if e != api.OK {
		t.Fatalf("%s: the error of Posterior is %d", program, e)
	}
	s := ""
	for _, row := range l {
		text, _ := polynomial.Format(row.Prob.Num, nil)
		s += fmt.Sprint(row.Key, " ", text, " ")
	}
	return s
}

// Programs with nested queries, with an example of the document among them.
func TestPrograms(t *testing.T) {
	coin := "query coin { var a: bool; var b: bool; a ~ flip(1/2); b ~ flip(1/2); observe a || b; return a; } "
	for _, c := range []struct{ program, want string }{
		{"query q { var c: bool; c ~ flip(1/4); return c; } var b: bool; b ~ posterior q; return b;", "[0] 3/4 [1] 1/4 "},
		{coin + "var b: bool; b ~ posterior coin; return b;", "[0] 1/3 [1] 2/3 "},
		{coin + "var b: bool; var c: bool; b ~ posterior coin; c ~ posterior coin; observe b == c; return b;", "[0] 1/5 [1] 4/5 "},
		{coin + "query two { var n: int[0, 2]; var b: bool; repeat 2 { b ~ posterior coin; if b { n := n + 1; } } return n; } var n: int[0, 2]; n ~ posterior two; return n;", "[0] 1/9 [1] 4/9 [2] 4/9 "},
		{coin + "func f() { var r: bool; r ~ posterior coin; return r; } var b: bool; b := f(); observe !b; return b;", "[0] 1 "},
		{coin + "var b: bool; while !b { b ~ posterior coin; } return b;", "[1] 1 "},
		{"query die { var d: int[1, 6]; d ~ uniform(1, 6); weight 1/2; observe d < 4; return d; } var s: int[0, 6]; var d: int[1, 6]; d ~ posterior die; s := d; d ~ posterior die; s := s + d; return s;", "[2] 1/9 [3] 2/9 [4] 1/3 [5] 2/9 [6] 1/9 "},
		{"query q { var x: bool; observe x; return x; } var b: bool; return b;", "error 10"},
		{"query q { var n: int[0, 15]; repeat 4 { n ~ uniform(0, 15); } return n; } var b: bool; return b;", "error 9"},
		{"query q { var n: int[0, 15]; repeat 3 { n ~ uniform(0, 15); } return n; } var b: bool; return b;", "[0] 1 "},
	} {
		if got := posteriorOf(t, c.program, 3); got != c.want {
			t.Errorf("the posterior of %s is %s, not %s", c.program, got, c.want)
		}
	}
}

// Exact probabilities: the one who knows that a coin is biased draws what another one believes.
func TestBeliefs(t *testing.T) {
	believed := big.NewRat(1, 3) // of the bias 2/3 against 1/3, before one throw
	for n := 1; n < 5; n++ {
		q := query([]api.Cell{truth, truth}, flip(0, "1/3"))
		for range n {
			q.Body = append(q.Body, branch(variable(0), []api.Cmd{flip(1, "2/3")}, []api.Cmd{flip(1, "1/3")}), observe(variable(1)))
		}
		odds := new(big.Rat).Quo(believed, new(big.Rat).Sub(big.NewRat(1, 1), believed))
		odds.Mul(odds, big.NewRat(1<<n, 1))
		p := new(big.Rat).Quo(odds, new(big.Rat).Add(odds, big.NewRat(1, 1)))
		m, e := nested.Resolve(drawing(q))
		if e != api.OK || !same(m.Body[0].Dist.Weights[1], fromBig(p)) {
			t.Errorf("after %d throws the table is %s with the error %d, not %v", n, text(m.Body[0].Dist), e, p)
		}
	}
}
