package nested_test

import (
	"fmt"
	"slices"
	"testing"

	"exactppl/api"
	"exactppl/nested"
)

// wantError checks the error of Resolve, and that there is no result next to it.
func wantError(t *testing.T, what string, m api.Module, want api.Errno) {
	t.Helper()
	check(t, m)
	n, e := nested.Resolve(m)
	if e != want || e != api.OK && !same(n, api.Module{}) {
		t.Errorf("%s: Resolve is %+v with the error %d, not %d", what, n, e, want)
	}
}

// The parts of a nested module that have an error, in the order of the errors.
var faults = []struct {
	body []api.Cmd
	want api.Errno
}{
	{slices.Repeat([]api.Cmd{draw(0, table(0, "1"))}, 65), api.ErrLimit},
	{[]api.Cmd{branch(num(0), []api.Cmd{observe(node(api.FoLe, num(0), api.Form{Op: api.FoRat, Rat: fraction("1/2")}))}, nil)}, api.ErrClass},
	{slices.Repeat([]api.Cmd{draw(0, table(0, "1/4", "1/4", "1/4", "1/4"))}, 8), api.ErrLimit},
	{[]api.Cmd{observe(num(0))}, api.ErrEvidence},
}

// faulty returns a nested module with some of the faults, and its error.
func faulty(bits int) (api.Module, api.Errno) {
	q, first := query([]api.Cell{truth}, flip(0, "1/3")), api.OK
	for i, f := range faults {
		if bits>>i&1 == 1 {
			q.Body = append(q.Body, f.body...)
			if first == api.OK {
				first = f.want
			}
		}
	}
	return q, first
}

// A nested module with some of the faults in two orders of its commands: the first error is the same.
func TestOrderOfErrors(t *testing.T) {
	for bits := range 1 << len(faults) {
		q, want := faulty(bits)
		wantError(t, fmt.Sprintf("the faults %04b", bits), drawing(q), want)
		slices.Reverse(q.Body[:len(q.Body)-bits>>3]) // but a rejection stays behind all draws, which it would prevent
		wantError(t, fmt.Sprintf("the faults %04b, in reverse", bits), drawing(q), want)
	}
}

// The nested modules are examined in order, also those from which nothing is drawn, and after the whole module.
func TestOrderOfModules(t *testing.T) {
	all := []int{0, 1, 2, 4, 8, 15}
	for _, a := range all {
		for _, b := range all {
			first, want := faulty(a)
			second, e := faulty(b)
			if want == api.OK {
				want = e
			}
			what := fmt.Sprintf("the faults %04b and %04b", a, b)
			wantError(t, what, drawing(first, second), want)
			wantError(t, what+", with others between them", drawing(query([]api.Cell{truth}), first, query([]api.Cell{truth}), second), want)
			m := query([]api.Cell{truth})
			m.Nested = []api.Module{first, second}
			wantError(t, what+", not drawn from", m, want)
			m.Nested[1].Body = append([]api.Cmd{from(0, 0)}, second.Body...) // a draw has no error of its own
			wantError(t, what+", drawn from in the second one", m, want)
			m.Body = []api.Cmd{from(0, 2)}
			wantError(t, what+", and a draw from none", m, api.ErrForm)
			m.Cells = slices.Repeat(m.Cells, api.MaxCells+1)
			wantError(t, what+", and too many cells", m, api.ErrLimit)
		}
	}
}

// Modules that are not valid.
func TestNoModules(t *testing.T) {
	good := query([]api.Cell{truth}, flip(0, "1/2"))
	changed := func(change func(q *api.Module)) api.Module {
		q := copyOf(good)
		change(&q)
		return drawing(good, q)
	}
	procedure := api.Proc{Cells: []api.Cell{truth}, Outs: []int{0}}
	for what, m := range map[string]api.Module{
		"no module":                    {},
		"a draw from none":             query([]api.Cell{truth}, from(0, 0)),
		"a draw from a negative one":   {Cells: []api.Cell{truth}, Body: []api.Cmd{from(0, -1)}, Nested: []api.Module{good}, Outs: []int{0}, Type: typeOf(truth)},
		"a draw from itself":           changed(func(q *api.Module) { q.Body = []api.Cmd{from(0, 1)} }),
		"a draw from a later one":      changed(func(q *api.Module) { q.Body = []api.Cmd{from(0, 2)} }),
		"too many values":              changed(func(q *api.Module) { q.Cells[0] = integer(0, 16); q.Type = typeOf(q.Cells[0]) }),
		"a nested module in it":        changed(func(q *api.Module) { q.Nested = []api.Module{good} }),
		"a procedure in it":            changed(func(q *api.Module) { q.Procs = []api.Proc{procedure} }),
		"a loop in it":                 changed(func(q *api.Module) { q.Body = []api.Cmd{loop(num(0))} }),
		"a cut in it":                  changed(func(q *api.Module) { q.Body = []api.Cmd{cut} }),
		"a parameter in it":            changed(func(q *api.Module) { q.Params = 1 }),
		"a natural cell in it":         changed(func(q *api.Module) { q.Cells = append(q.Cells, natural) }),
		"a real cell in it":            changed(func(q *api.Module) { q.Cells = append(q.Cells, real) }),
		"two cells as the result":      changed(func(q *api.Module) { q.Outs = []int{0, 0} }),
		"a draw into a cell of none":   changed(func(q *api.Module) { q.Body = []api.Cmd{from(1, 0)} }),
		"nine nested modules":          drawing(slices.Repeat([]api.Module{good}, 9)...),
		"a real draw from one":         {Cells: []api.Cell{truth, real}, Body: []api.Cmd{from(1, 0)}, Nested: []api.Module{good}, Outs: []int{0}, Type: typeOf(truth)},
		"a draw in a procedure":        {Cells: []api.Cell{truth}, Procs: []api.Proc{{Cells: []api.Cell{truth}, Outs: []int{0}, Body: []api.Cmd{from(0, 1)}}}, Nested: []api.Module{good}, Outs: []int{0}, Type: typeOf(truth)},
		"weights with a sum below one": changed(func(q *api.Module) { q.Body = []api.Cmd{draw(0, table(0, "1/2", "1/3"))} }),
	} {
		wantError(t, what, m, api.ErrForm)
	}
	many := drawing(good, good)
	many.Body = append(many.Body, slices.Repeat([]api.Cmd{from(0, 1)}, api.MaxCommands-4)...)
	wantError(t, "2000 commands", many, api.OK)
	many.Nested[0].Body = append(many.Nested[0].Body, flip(0, "1/2"))
	wantError(t, "2001 commands", many, api.ErrLimit)
}
