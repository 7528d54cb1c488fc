package nested_test

import (
	"fmt"
	"slices"
	"testing"
	"time"

	"exactppl/api"
	"exactppl/core"
	"exactppl/nested"
	"exactppl/rational"
)

// A nested module has at most MaxSites draws, also if they are never executed; those from other nested modules count. The module itself may have more.
func TestNumberOfDraws(t *testing.T) {
	first := query([]api.Cell{truth}, set(0, num(1)))
	for _, n := range []int{0, 1, 63, 64, 65, 66, 130} {
		want := api.OK
		if n > 64 {
			want = api.ErrLimit
		}
		l := slices.Repeat([]api.Cmd{draw(0, table(1, "1"))}, n)
		fromFirst := slices.Repeat([]api.Cmd{from(0, 0)}, n)
		for what, body := range map[string][]api.Cmd{
			"from tables":         l,
			"from the other one":  fromFirst,
			"from both":           slices.Concat(l[:n/2], fromFirst[n/2:]),
			"in a branch":         {branch(num(0), l, nil)},
			"in two branches":     {branch(num(1), l[:n/3], fromFirst[n/3:])},
			"behind a rejection":  slices.Concat([]api.Cmd{branch(num(0), []api.Cmd{observe(num(0))}, nil)}, l),
			"inside each other":   {branch(num(1), slices.Concat(l[:n/4], []api.Cmd{branch(num(1), nil, l[n/4:])}), nil)},
			"and the sites are 9": each(l, func(c api.Cmd) api.Cmd { c.Site = 9; return c }),
		} {
			wantError(t, fmt.Sprint(n, " draws ", what), drawing(first, query([]api.Cell{truth}, body...)), want)
		}
		m := drawing(first)
		m.Body = append(slices.Clone(m.Body), slices.Repeat(fromFirst, 10)...)
		wantError(t, fmt.Sprint(10*n, " draws of the module"), m, api.OK)
	}
}

// A nested module has at most MaxTraces traces. Values without probability lead to none.
func TestNumberOfTraces(t *testing.T) {
	cells := []api.Cell{integer(0, 15), truth}
	fairs := func(sizes ...int) []api.Cmd { return each(sizes, func(n int) api.Cmd { return fair(0, n) }) }
	ten := query([]api.Cell{integer(0, 15)}, fair(0, 10))
	two := query([]api.Cell{integer(0, 15)}, draw(0, table(0, "0", "0", "1/4", "0", "0", "0", "0", "0", "0", "0", "0", "0", "0", "0", "0", "3/4")))
	froms := func(query, n int) []api.Cmd { return slices.Repeat([]api.Cmd{from(0, query)}, n) }
	for _, c := range []struct {
		body   []api.Cmd
		traces int
	}{
		{fairs(2, 5, 2, 5, 2, 5, 2, 5, 2), 20000},
		{fairs(16, 16, 16, 4), 16384},
		{fairs(16, 16, 16, 5), 20480},
		{slices.Concat([]api.Cmd{flip(1, "1/2"), branch(variable(1), []api.Cmd{observe(num(0))}, nil)}, fairs(10, 10, 10, 10)), 10001},
		{slices.Concat([]api.Cmd{flip(1, "1/2"), branch(variable(1), []api.Cmd{observe(num(0))}, nil)}, fairs(10, 10, 10, 10, 2)), 20001},
		{slices.Concat(fairs(10, 10, 10, 10, 2), []api.Cmd{observe(isEqual(0, 1))}), 20000},
		{slices.Concat(froms(0, 4), froms(1, 1)), 20000},
		{slices.Concat(froms(0, 4), froms(1, 1), []api.Cmd{branch(isEqual(1, 0), nil, froms(1, 9))}), 20000},
		{slices.Concat([]api.Cmd{flip(1, "1/2"), branch(variable(1), nil, []api.Cmd{observe(num(0))})}, froms(0, 4), froms(1, 1)), 20001},
		{froms(1, 14), 16384},
		{froms(1, 15), 32768},
	} {
		want := api.OK
		if c.traces > 20000 {
			want = api.ErrLimit
		}
		wantError(t, fmt.Sprint(c.traces, " traces"), drawing(ten, two, query(cells, c.body...)), want)
	}
}

// Draws on the deepest level, the greatest forms, and the most cells, commands and nested modules.
func TestLargestModules(t *testing.T) {
	inner := func(c api.Cmd) []api.Cmd {
		l := []api.Cmd{c}
		for i := range 199 {
			if i%2 == 0 {
				l = []api.Cmd{branch(num(0), nil, l)}
			} else {
				l = []api.Cmd{set(0, num(0)), branch(num(1), l, nil)}
			}
		}
		return l
	}
	first := query([]api.Cell{truth}, inner(flip(0, "1/5"))...)
	second := query([]api.Cell{truth}, inner(from(0, 0))...)
	m := drawing(first, second)
	m.Body = inner(from(0, 1))
	m.Procs = []api.Proc{{Cells: []api.Cell{truth}, Outs: []int{0}, Body: inner(from(0, 0))}}
	wantError(t, "the depth 200", m, api.OK)
	n, _ := nested.Resolve(m)
	tables := 0
	for _, c := range append(flat(n.Body), flat(n.Procs[0].Body)...) {
		if c.Kind == api.CmdDraw && text(c.Dist) == "1 from 0: 4/5 1/5" {
			tables++
		}
	}
	if tables != 2 || core.Validate(n) != api.OK {
		t.Errorf("there are %d tables in %+v", tables, n)
	}

	deep, large := variable(0), variable(0)
	for range 199 {
		deep = not(deep)
	}
	for size := 1; 2*size+3 <= api.MaxForm; size = 2*size + 1 {
		large = node(api.FoAnd, large, large)
	}
	cells := slices.Repeat([]api.Cell{truth}, api.MaxCells)
	l := []api.Cmd{flip(0, "1/4"), set(399, deep), set(0, node(api.FoOr, large, variable(399)))}
	q := api.Module{Cells: cells, Body: l, Outs: []int{399}, Type: typeOf(truth)}
	m = drawing(q, second, q)
	m.Nested[1].Body = []api.Cmd{from(0, 0)}
	m.Cells = cells
	wantTables(t, "large forms", m.Nested, "0: 1/4 3/4", "0: 1/4 3/4", "0: 1/4 3/4")
	wantError(t, "many cells", m, api.OK)

	// Each of the nested modules draws from all before it.
	var all []api.Module
	for i := range api.MaxFuncs {
		q := query([]api.Cell{integer(-8, 7), integer(-8, 7)}, draw(0, table(-8, slices.Repeat([]string{"1/16"}, 16)...)))
		for j := range i {
			q.Body = append(q.Body, from(1, j), observe(node(api.FoLt, variable(1), num(j))))
		}
		q.Body = append(q.Body, set(0, node(api.FoAdd, variable(0), node(api.FoLt, variable(0), variable(1)))))
		all = append(all, q)
	}
	for n := range 3 {
		wantError(t, fmt.Sprint(n+1, " nested modules"), drawing(all[:n+1]...), api.OK)
	}
}

// limbs returns a large number.
func limbs(n int, last uint32) []uint32 {
	l := slices.Repeat([]uint32{0x9e3779b9}, n)
	l[n-1] = last
	return l
}

// Many traces, draws, nested modules and large fractions take no long time.
func TestTime(t *testing.T) {
	flips := func(n int, d api.Dist) []api.Cmd {
		return each(make([]int, n), func(int) api.Cmd { return draw(0, d) })
	}
	w := api.Rat{Num: limbs(7, 1), Den: limbs(7, 3)} // of more digits than a program can have
	large := api.Dist{Kind: api.DistTable, Weights: []api.Poly{{{Coef: w}}, {{Coef: rational.Sub(rational.Int(1), w)}}}}
	half := table(0, "1/2", "1/2")
	one := slices.Concat(flips(1, large), slices.Repeat([]api.Cmd{draw(1, large), observe(node(api.FoEq, variable(0), variable(1)))}, 63))
	cells := []api.Cell{truth, truth}
	chain := []api.Module{query(cells, flip(0, "1/3"))}
	for i := range api.MaxFuncs - 1 {
		chain = append(chain, query(cells, from(0, i), from(1, i), observe(node(api.FoEq, variable(0), variable(1))), branch(variable(0), []api.Cmd{from(1, i), from(1, i), observe(variable(1))}, nil)))
	}
	for what, queries := range map[string][]api.Module{
		"14 draws in each":    slices.Repeat([]api.Module{query(cells, flips(14, half)...)}, 8),
		"15 draws in each":    slices.Repeat([]api.Module{query(cells, flips(15, half)...)}, 8),
		"large fractions":     {query(cells, flips(10, large)...)},
		"64 large fractions":  {query(cells, one...), query(cells, from(0, 0))},
		"growing fractions":   chain,
		"1 and 16384 results": {query([]api.Cell{integer(0, 15), truth}, slices.Concat(slices.Repeat([]api.Cmd{flip(1, "1/3"), set(0, node(api.FoAdd, variable(0), variable(1)))}, 14))...)},
	} {
		start := time.Now()
		m := drawing(queries...)
		m.Body = append(m.Body, slices.Repeat([]api.Cmd{from(0, 0)}, 1000)...)
		n, e := nested.Resolve(m)
		want := api.OK
		if what == "15 draws in each" {
			want = api.ErrLimit
		}
		if e != want || e == api.OK && core.Validate(n) != api.OK {
			t.Errorf("%s: the error is %d, not %d", what, e, want)
		}
		if d := time.Since(start); d > 20*time.Second {
			t.Errorf("%s: it takes %v", what, d)
		} else {
			t.Log(what, d)
		}
	}
}
