package trace_test

import (
	"fmt"
	"slices"
	"testing"
	"time"

	"exactppl/api"
	"exactppl/polynomial"
	"exactppl/trace"
)

// fairDraws draws the variable 0 from tables with so many outcomes.
func fairDraws(sizes ...int) []api.Cmd {
	return each(sizes, func(n int) api.Cmd { return draw(0, fair(n)) })
}

// wantTraces checks that a module has n traces, or too many.
func wantTraces(t *testing.T, what string, m api.Module, n int) {
	t.Helper()
	e := api.OK
	if n > 20000 {
		n, e = 0, api.ErrLimit
	}
	l, got := trace.All(m)
	if len(l) != n || got != e {
		t.Errorf("%s: there are %d traces, with the error %d, not %d with %d", what, len(l), got, n, e)
	}
	x, got := trace.Measure(m)
	if got != e || e != api.OK && !same(x, api.Measure{}) {
		t.Errorf("%s: the measure is %s, with the error %d, not %d", what, masses(x), got, e)
	}
}

// There are at most MaxTraces, also those that are rejected or cut; outcomes of weight zero do not count.
func TestNumberOfTraces(t *testing.T) {
	most := []int{2, 5, 2, 5, 2, 5, 2, 5, 2} // 20000 lists
	cells := []api.Cell{small, truth}
	module := func(l ...api.Cmd) api.Module { return module(t, cells, l...) }
	wantTraces(t, "draws", module(fairDraws(most...)...), 20000)
	wantTraces(t, "draws from 16 outcomes", module(fairDraws(16, 16, 16, 4)...), 16384)
	wantTraces(t, "draws from 16 outcomes", module(fairDraws(16, 16, 16, 5)...), 20480)
	wantTraces(t, "draws of one outcome", module(append(fairDraws(most...), fairDraws(slices.Repeat([]int{1}, 55)...)...)...), 20000)
	wantTraces(t, "no draws", module(), 1)
	for _, end := range []api.Cmd{cut, observe(num(0)), observe(num(1))} {
		wantTraces(t, "an end", module(append(fairDraws(most...), end)...), 20000)
		wantTraces(t, "an end before draws", module(append([]api.Cmd{flip(1), branch(variable(1), []api.Cmd{cut}, fairDraws(most...))}, end)...), 20001)
		wantTraces(t, "an end before draws", module(append([]api.Cmd{flip(1), branch(variable(1), fairDraws(most...), []api.Cmd{observe(num(0))})}, end)...), 20001)
		wantTraces(t, "an end behind two branches", module(append([]api.Cmd{flip(1), flip(0), branch(variable(0), fairDraws(9, 11, 10, 10), nil)}, end)...), 2*(1+9900))
		wantTraces(t, "an end behind two branches", module(append([]api.Cmd{flip(1), flip(0), branch(variable(0), fairDraws(10, 10, 10, 10), nil)}, end)...), 2*(1+10000))
	}
	half := constant(1, 2)
	d := table(0, nil, half, nil, api.Poly{{Coef: api.Rat{Num: []uint32{1}}}}, half, nil)
	wantTraces(t, "weights that are zero", module(slices.Repeat([]api.Cmd{draw(0, d)}, 14)...), 1<<14)
	wantTraces(t, "weights that are zero", module(slices.Repeat([]api.Cmd{draw(0, d)}, 15)...), 1<<15)
}

// An exponent can become MaxExp.
func TestGreatestExponents(t *testing.T) {
	p := power(0, 16)
	m := module(t, []api.Cell{truth}, slices.Repeat([]api.Cmd{draw(0, table(0, p, others(p))), observe(not(variable(0)))}, 64)...)
	x, n, e := trace.Run(m, make([]int, 64))
	if e != api.OK || n != 64 || !same(x.Mass, power(0, 1024)) {
		t.Errorf("the mass is %s, the error %d", textOf(x.Mass), e)
	}
	wantTraces(t, "64 draws", m, 65)
	y, e := trace.Measure(m)
	rejected, _ := polynomial.Sub(constant(1, 1), power(0, 1024))
	if want := (api.Measure{Rows: []api.Row{{Key: []int{0}, Mass: power(0, 1024)}}, Rejected: rejected}); e != api.OK || !same(y, want) {
		t.Errorf("the measure is %s, the error %d", masses(y), e)
	}
}

// sized returns a form of the size n with a depth of at most 31.
func sized(n int) api.Form {
	switch {
	case n == 1:
		return variable(0)
	case n%2 == 0:
		return not(sized(n - 1))
	}
	return node(api.FoAdd, sized(1+(n-3)/2), sized(n-2-(n-3)/2))
}

// The largest modules: commands, cells, forms, and levels.
func TestLargestModules(t *testing.T) {
	cells := slices.Repeat([]api.Cell{small}, api.MaxCells)
	last := len(cells) - 1
	sets := slices.Repeat([]api.Cmd{set(last, node(api.FoAdd, variable(0), variable(1)))}, api.MaxCommands-3)
	wantRuns := func(what string, m api.Module, n int, outcomes ...int) {
		t.Helper()
		checkRun(t, m, outcomes)
		l, e := trace.All(m)
		if e != api.OK || len(l) != n || !same(l, traces(m, nil)) {
			t.Errorf("%s: there are %d traces, not %d, or they are wrong; the error is %d", what, len(l), n, e)
		}
	}
	wantRuns("2000 commands", module(t, cells, append([]api.Cmd{flip(0), flip(1), flip(2)}, sets...)...), 8, 1, 0, 1)
	var large []api.Cmd
	for i := range 10 {
		large = append(large, set(last-i, sized(api.MaxForm)))
	}
	wantRuns("large forms", module(t, cells, append([]api.Cmd{flip(0)}, large...)...), 2, 1)
	deep := variable(0)
	for range 199 {
		deep = not(deep)
	}
	wantRuns("a form of the depth 200", module(t, cells, flip(0), set(1, deep)), 2, 1)
	l := []api.Cmd{flip(0)}
	for i := range 198 {
		if i%4 == 0 {
			l = append(l, draw(1, fair(1)))
		}
		if i%2 == 0 {
			l = []api.Cmd{branch(num(1), l, nil), set(i, node(api.FoSub, variable(i), num(1)))}
		} else {
			l = []api.Cmd{branch(num(0), nil, l), set(i, variable(0))}
		}
	}
	wantRuns("lists of the depth 200", module(t, cells, append([]api.Cmd{flip(2)}, branch(variable(2), l, nil))...), 3, append([]int{1}, make([]int, 60)...)...)
}

// flips has draws of the first n cells with weights that depend on parameters, or on large numbers, or do not.
func flips(n int, weight func(i int) api.Poly) []api.Cmd {
	var l []api.Cmd
	for i := range n {
		w := weight(i)
		l = append(l, draw(i, table(0, w, others(w))))
	}
	return l
}

// Many traces, large masses and large states take no long time, and it is found soon that there are too many traces.
func TestTime(t *testing.T) {
	cells := slices.Repeat([]api.Cell{truth}, api.MaxCells)
	half := func(int) api.Poly { return constant(1, 2) }
	one := func(int) api.Poly { return power(0, 1) }
	three := func(i int) api.Poly { return power(i%3, 1+i%2) }
	large := func(i int) api.Poly {
		digits := api.Rat{Num: []uint32{1<<31 + uint32(i), 77, 1 << 20}, Den: []uint32{uint32(7919 * (i + 1)), 12345, 99, 1 << 21}}
		return polynomial.Const(digits)
	}
	wide, _ := polynomial.Sub(power(0, 1), power(1, 3))
	sets := slices.Repeat([]api.Cmd{set(399, node(api.FoOr, variable(3), variable(5)))}, api.MaxCommands-14)
	results := module(t, cells, flips(14, three)...)
	results.Outs = []int{0, 1, 2, 3, 4, 5, 6, 7, 8, 9, 10, 11, 12, 13}
	results.Type = api.Type{Kind: api.TypeTuple}
	for _, n := range []int{4, 4, 4, 2} {
		results.Type.Elems = append(results.Type.Elems, api.Type{Kind: api.TypeTuple, Elems: slices.Repeat([]api.Type{boolean}, n)})
	}
	for what, m := range map[string]api.Module{
		"flips":                 module(t, cells, flips(14, half)...),
		"a parameter":           module(t, cells, flips(14, one)...),
		"three parameters":      module(t, cells, flips(12, three)...),
		"large numbers":         module(t, cells, flips(12, large)...),
		"16384 results":         results,
		"commands behind draws": module(t, cells, append(flips(14, half), sets...)...),
		"commands before draws": module(t, cells, append(sets[:len(sets):len(sets)], flips(14, half)...)...),
		"draws of one outcome":  module(t, cells, append(flips(12, half), slices.Repeat([]api.Cmd{draw(0, fair(1))}, 52)...)...),
	} {
		start := time.Now()
		l, e := trace.All(m)
		x, f := trace.Measure(m)
		if d := time.Since(start); len(l) < 1<<12 || e != api.OK || f != api.OK || d > 20*time.Second {
			t.Errorf("%s: there are %d traces and %d results, the errors are %d and %d, it takes %v", what, len(l), len(x.Rows), e, f, d)
		}
	}
	start := time.Now()
	for _, l := range [][]api.Cmd{flips(64, half), flips(64, func(int) api.Poly { return wide }), slices.Repeat([]api.Cmd{draw(0, table(0, slices.Concat(slices.Repeat([]api.Poly{wide}, 15), []api.Poly{others(slices.Repeat([]api.Poly{wide}, 15)...)})...))}, 64)} {
		if l, e := trace.All(module(t, cells, l...)); len(l) > 0 || e != api.ErrLimit {
			t.Errorf("there are %d traces, the error is %d", len(l), e)
		}
		if x, e := trace.Measure(module(t, cells, l...)); e != api.ErrLimit || !same(x, api.Measure{}) {
			t.Errorf("the measure is %s, the error is %d", masses(x), e)
		}
	}
	if d := time.Since(start); d > 20*time.Second {
		t.Error("the error takes", fmt.Sprint(d))
	}
}
