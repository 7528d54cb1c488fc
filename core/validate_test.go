package core_test

import (
	"maps"
	"slices"
	"testing"

	"exactppl/api"
	"exactppl/core"
)

// P13.1: the definition of a well-formed module

// Random modules, and modules that were damaged at a few places, against the definition.
func TestRandomModules(t *testing.T) {
	m := newMaker(137)
	met := map[api.Errno]int{}
	for range 15000 {
		x := m.module(m.often(4))
		damaged := m.often(10)
		for !damaged || m.often(8) {
			m.damage(&x)
			damaged = true
		}
		faults := slices.Sorted(maps.Keys(faultsOf(x)))
		want := api.OK
		switch {
		case isTooLarge(x):
			want = api.ErrLimit
		case len(faults) > 0:
			want = api.ErrForm
		}
		if e := core.Validate(x); e != want {
			t.Fatalf("Validate(%+v) is %d, not %d: %q", x, e, want, faults)
		}
		met[want]++
	}
	if met[api.OK] < 4000 || met[api.ErrForm] < 6000 {
		t.Errorf("the errors are %v", met)
	}
}

// spoilt returns the module with everything after a change.
func spoilt(change func(m *api.Module)) api.Module {
	m := copyOf(rich())
	change(&m)
	return m
}

// with returns the module with everything and some commands more at its end.
func with(l ...api.Cmd) api.Module {
	return spoilt(func(m *api.Module) { m.Body = append(m.Body, l...) })
}

// inPlaces returns modules with the command at all places where commands stand.
func inPlaces(c api.Cmd) []api.Module {
	return []api.Module{
		with(c),
		spoilt(func(m *api.Module) { m.Body = append([]api.Cmd{c}, m.Body...) }),
		with(branch(num(1), []api.Cmd{c}, nil)),
		with(branch(num(1), nil, []api.Cmd{cut, c})),
		with(loop(num(1), cut, branch(num(0), []api.Cmd{c}, nil))),
	}
}

// inBlocks returns modules with the command in the module, in each procedure, and in each nested module. The cells 0 and 1 of all blocks are finite.
func inBlocks(c api.Cmd) []api.Module {
	l := inPlaces(c)
	for i := range rich().Procs {
		l = append(l, spoilt(func(m *api.Module) { m.Procs[i].Body = append(m.Procs[i].Body, c) }))
		l = append(l, spoilt(func(m *api.Module) {
			m.Procs[i].Body = append(m.Procs[i].Body, loop(num(0), branch(num(1), nil, []api.Cmd{c})))
		}))
	}
	for i := range rich().Nested {
		l = append(l, spoilt(func(m *api.Module) { m.Nested[i].Body = append(m.Nested[i].Body, c) }))
		l = append(l, spoilt(func(m *api.Module) {
			m.Nested[i].Body = append([]api.Cmd{branch(num(1), nil, []api.Cmd{c})}, m.Nested[i].Body...)
		}))
	}
	return l
}

// checkFault checks that a module is not well-formed for this reason alone.
func checkFault(t *testing.T, met map[string]bool, what string, m api.Module) {
	t.Helper()
	if faults := slices.Collect(maps.Keys(faultsOf(m))); !slices.Equal(faults, []string{what}) {
		t.Errorf("%s: the reasons are %q", what, faults)
	}
	checkModule(t, what, m, api.ErrForm)
	met[what] = true
}

// A command with a field that is not zero, for each field.
func fieldsOf(c api.Cmd) map[string]api.Cmd {
	l := map[string]api.Cmd{}
	change := func(name string, f func(c *api.Cmd)) {
		d := copyOf(c)
		f(&d)
		l[name] = d
	}
	change("Var", func(c *api.Cmd) { c.Var = 1 })
	change("Form", func(c *api.Cmd) { c.Form = num(0) })
	change("Dist", func(c *api.Cmd) { c.Dist = fair(2) })
	change("Then", func(c *api.Cmd) { c.Then = []api.Cmd{observe(num(1))} })
	change("Else", func(c *api.Cmd) { c.Else = []api.Cmd{observe(num(1))} })
	change("Args", func(c *api.Cmd) { c.Args = []api.Form{num(0)} })
	change("Outs", func(c *api.Cmd) { c.Outs = []int{0} })
	return l
}

// uses tells which fields a kind of commands uses.
func uses(kind int) []string {
	return [][]string{nil, {"Args", "Outs"}, {"Var", "Dist"}, {"Form", "Then", "Else"}, {"Form"}, nil, {"Form", "Then"}, {"Var", "Args", "Outs"}}[kind]
}

func TestUnusedFields(t *testing.T) {
	met := map[string]bool{}
	for _, c := range []api.Cmd{set(0, num(1)), draw(0, fair(2)), branch(num(1), nil, nil), observe(num(1)), cut, loop(num(1)), call(0, []int{0, 1}, num(1))} {
		checkModule(t, show(c), with(c), api.OK)
		for name, d := range fieldsOf(c) {
			if !slices.Contains(uses(c.Kind), name) {
				checkFault(t, met, "a field of a command is not used: "+name, with(d))
			}
		}
		for _, f := range []api.Form{{Op: 14}, {Int: 1}, {Rat: api.Rat{Neg: true}}, {Rat: api.Rat{Num: []uint32{0}}}, {Rat: api.Rat{Den: []uint32{0}}}, {Args: []api.Form{{}}}} {
			if d := c; !slices.Contains(uses(c.Kind), "Form") {
				d.Form = f
				checkFault(t, met, "a field of a command is not used: Form", with(d))
			}
		}
		for _, dist := range []api.Dist{{Kind: -1}, {Low: 1}, {High: -1}, {Weights: []api.Poly{nil}}, {From: api.Rat{Neg: true}}, {From: api.Rat{Num: []uint32{0}}}, {To: api.Rat{Den: []uint32{1}}}} {
			if d := c; c.Kind != api.CmdDraw {
				d.Dist = dist
				checkFault(t, met, "a field of a command is not used: Dist", with(d))
			}
		}
		c.Site = -7
		checkModule(t, "with a Site "+show(c), with(c), api.OK)
	}
	if len(met) != 7 {
		t.Errorf("the fields are %v", met)
	}
}

func TestUnusedFieldsOfDistributions(t *testing.T) {
	met := map[string]bool{}
	third := constant(1, 3)
	for _, c := range []struct {
		cell int
		d    api.Dist
		used []string
	}{
		{1, table(0, third, third, third), []string{"Low", "Weights"}},
		{2, api.Dist{Kind: api.DistGeometric, From: ratio(1, 2)}, []string{"From"}},
		{3, api.Dist{Kind: api.DistInterval, From: ratio(1, 2), To: ratio(2, 3)}, []string{"From", "To"}},
		{3, api.Dist{Kind: api.DistBeta, Low: 1, High: 1}, []string{"Low", "High"}},
		{1, api.Dist{Kind: api.DistNested, Low: 1}, []string{"Low"}},
	} {
		checkModule(t, show(c.d), with(draw(c.cell, c.d)), api.OK)
		for name, changes := range map[string][]func(d *api.Dist){
			"Low":     {func(d *api.Dist) { d.Low = 1 }, func(d *api.Dist) { d.Low = -1 }},
			"High":    {func(d *api.Dist) { d.High = 1 }, func(d *api.Dist) { d.High = -1 }},
			"Weights": {func(d *api.Dist) { d.Weights = make([]api.Poly, 1) }},
			"From":    {func(d *api.Dist) { d.From = ratio(0, 1) }, func(d *api.Dist) { d.From.Neg = true }},
			"To":      {func(d *api.Dist) { d.To = ratio(3, 1) }, func(d *api.Dist) { d.To = api.Rat{Num: []uint32{0}} }},
		} {
			for _, change := range changes {
				d := copyOf(c.d)
				change(&d)
				if !slices.Contains(c.used, name) {
					checkFault(t, met, "a field of a distribution is not used: "+name, with(draw(c.cell, d)))
				}
			}
		}
		for _, kind := range []int{0, 6, -1} {
			d := copyOf(c.d)
			d.Kind = kind
			checkFault(t, met, "the kind of a distribution exists", with(draw(c.cell, d)))
		}
	}
	if len(met) != 6 {
		t.Errorf("the faults are %v", met)
	}
}

// Each sentence is the only one that does not hold in one of these modules.
func TestFaults(t *testing.T) {
	met := map[string]bool{}
	for _, c := range slices.Concat(moduleFaults(), procedureFaults(), commandFaults(), formFaults(), distFaults()) {
		for _, m := range c.modules {
			checkFault(t, met, c.what, m)
		}
	}
	for _, what := range sentences() {
		if !met[what] && !contains(what, "used:") && what != "the kind of a distribution exists" {
			t.Errorf("no module shows that %s", what)
		}
	}
}

// fault is a sentence that does not hold for the modules.
type fault struct {
	what    string
	modules []api.Module
}

// spoilings returns the modules after each of the changes.
func spoilings(changes ...func(m *api.Module)) []api.Module { return each(changes, spoilt) }

func moduleFaults() []fault {
	cellFaults := func(change func(c *api.Cell)) []api.Module {
		return spoilings(
			func(m *api.Module) { m.Cells = append(m.Cells, small); change(&m.Cells[len(m.Cells)-1]) },
			func(m *api.Module) { m.Procs[1].Cells = append(m.Procs[1].Cells, small); change(&m.Procs[1].Cells[2]) },
			func(m *api.Module) {
				m.Nested[1].Cells = append(m.Nested[1].Cells, small)
				change(&m.Nested[1].Cells[2])
			},
		)
	}
	var cells []api.Module
	for _, c := range []api.Cell{{Kind: api.TypeInt, Low: -1001, High: 3}, {Kind: api.TypeInt, High: 1001}, {Kind: api.TypeInt, Low: 1, High: 0}, {Kind: api.TypeInt, Low: -1 << 63, High: 1<<63 - 1}, {Kind: api.TypeBool}, {Kind: api.TypeBool, Low: 1, High: 1}, {Kind: api.TypeBool, Low: -1, High: 1}} {
		cells = append(cells, cellFaults(func(d *api.Cell) { *d = c })...)
	}
	for _, c := range []api.Cell{{}, {Kind: 5}, {Kind: 6}, {Kind: -1}, {Kind: api.TypeNat, High: 1}, {Kind: api.TypeNat, Low: 1}, {Kind: api.TypeReal, High: 1}, {Kind: api.TypeReal, Low: -1}} {
		cells = append(cells, spoilt(func(m *api.Module) { m.Cells = append(m.Cells, c) }))
	}
	number := api.Type{Kind: api.TypeInt, Low: -2, High: 3}
	return []fault{
		{"Params is from 0 to MaxParams", spoilings(func(m *api.Module) { m.Params = 4 }, func(m *api.Module) { m.Params = 1 << 62 })},
		{"Params is from 0 to MaxParams", []api.Module{{Params: -1, Cells: []api.Cell{truth}, Outs: []int{0}, Type: boolean}, {Params: -1 << 63, Cells: []api.Cell{truth}, Outs: []int{0}, Type: boolean}}},
		{"at most MaxFuncs procedures", spoilings(func(m *api.Module) { m.Procs = append(m.Procs, slices.Repeat(m.Procs[:1], 7)...) }, func(m *api.Module) { m.Procs = slices.Repeat(m.Procs, 50) })},
		{"at most MaxFuncs nested modules", spoilings(func(m *api.Module) { m.Nested = append(m.Nested, slices.Repeat(m.Nested[:1], 7)...) }, func(m *api.Module) { m.Nested = append(m.Nested, slices.Repeat(m.Nested[:1], 100)...) })},
		{"each cell has a kind and a range", cells},
		{"Type is valid", spoilings(func(m *api.Module) { m.Type.Max = 5 }, func(m *api.Module) { m.Type = api.Type{} }, func(m *api.Module) { m.Type, m.Outs = api.Type{}, nil }, func(m *api.Module) { m.Type.Elems[0].Max = 1 }, func(m *api.Module) { m.Nested[1].Type.High = 1 })},
		{"Outs are indices of cells", spoilings(func(m *api.Module) { m.Outs[0] = 7 }, func(m *api.Module) { m.Outs[2] = -1 }, func(m *api.Module) { m.Outs[1] = 1 << 62 }, func(m *api.Module) { m.Nested[1].Outs[0] = 2 }, func(m *api.Module) { m.Nested[0].Outs[0] = -1 << 63 })},
		{"the cells of Outs are those of Type", spoilings(func(m *api.Module) { m.Outs[0] = 1 }, func(m *api.Module) { m.Outs = m.Outs[:2] }, func(m *api.Module) { m.Outs = append(m.Outs, 6) }, func(m *api.Module) { m.Outs = nil }, func(m *api.Module) { m.Outs[0], m.Outs[1] = 5, 4 }, func(m *api.Module) { m.Type.Max = 1 }, func(m *api.Module) { m.Nested[0].Type = number }, func(m *api.Module) { m.Nested[0].Outs[0] = 1 }, func(m *api.Module) { m.Type = api.Type{Kind: api.TypeInt, Low: -2, High: 2}; m.Outs = []int{1} })},
		{"a nested module has no parameters", spoilings(func(m *api.Module) { m.Nested[0].Params = 1 }, func(m *api.Module) { m.Nested[1].Params = -1 })},
		{"a nested module has no procedures", spoilings(func(m *api.Module) { m.Nested[1].Procs = []api.Proc{{}} })},
		{"a nested module has no nested modules", spoilings(func(m *api.Module) { m.Nested[1].Nested = []api.Module{nested()} }, func(m *api.Module) { m.Nested[0].Nested = make([]api.Module, 1) })},
		{"a nested module has only finite cells", spoilings(func(m *api.Module) { m.Nested[1].Cells = append(m.Nested[1].Cells, natural) }, func(m *api.Module) { m.Nested[0].Cells = append(m.Nested[0].Cells, real) })},
		{"a nested module has one out", spoilings(func(m *api.Module) {
			m.Nested[1].Type, m.Nested[1].Outs = api.Type{Kind: api.TypeTuple, Elems: []api.Type{boolean, boolean}}, []int{0, 0}
		})},
		{"at most MaxOutcomes values", spoilings(func(m *api.Module) {
			n := &m.Nested[1]
			n.Cells[1].High, n.Type, n.Outs[0] = 14, api.Type{Kind: api.TypeInt, Low: -2, High: 14}, 1
		}, func(m *api.Module) {
			n := &m.Nested[0]
			n.Cells[1], n.Type, n.Outs[0] = api.Cell{Kind: api.TypeInt, Low: -1000, High: 1000}, api.Type{Kind: api.TypeInt, Low: -1000, High: 1000}, 1
		})},
		{"no CmdWhile, CmdCall and CmdCut in a nested module", spoilings(func(m *api.Module) { m.Nested[1].Body = append(m.Nested[1].Body, cut) }, func(m *api.Module) { m.Nested[0].Body = []api.Cmd{loop(num(0))} }, func(m *api.Module) { m.Nested[0].Body = []api.Cmd{branch(num(0), []api.Cmd{cut}, nil)} }, func(m *api.Module) {
			m.Nested[1].Body = []api.Cmd{branch(num(0), nil, []api.Cmd{branch(num(0), nil, []api.Cmd{loop(num(0))})})}
		})},
	}
}

// A call in a nested module has two faults, because there is no procedure to call.
func TestCallInNestedModule(t *testing.T) {
	for _, c := range []api.Cmd{call(0, []int{0, 1}, num(1)), call(0, nil), call(1, []int{0}, num(1), num(1))} {
		checkModule(t, show(c), spoilt(func(m *api.Module) { m.Nested[1].Body = append(m.Nested[1].Body, c) }), api.ErrForm)
	}
}

func procedureFaults() []fault {
	return []fault{
		{"a procedure has only finite cells", spoilings(func(m *api.Module) { m.Procs[0].Cells = append(m.Procs[0].Cells, natural) }, func(m *api.Module) { m.Procs[1].Cells = append(m.Procs[1].Cells, real) })},
		{"Args of a procedure", []api.Module{{Cells: []api.Cell{truth}, Procs: []api.Proc{{Cells: []api.Cell{truth}, Args: 2, Outs: []int{0}}}, Outs: []int{0}, Type: boolean}, {Cells: []api.Cell{truth}, Procs: []api.Proc{{Cells: []api.Cell{truth}, Args: -1, Outs: []int{0}}}, Outs: []int{0}, Type: boolean}}},
		{"at least one out of a procedure", spoilings(func(m *api.Module) { m.Procs = append(m.Procs, api.Proc{}) }, func(m *api.Module) { m.Procs = append(m.Procs, api.Proc{Cells: []api.Cell{truth}, Args: 1}) })},
		{"Outs of a procedure are cells", spoilings(func(m *api.Module) { m.Procs[0].Outs[1] = 2 }, func(m *api.Module) { m.Procs[1].Outs[0] = -1 }, func(m *api.Module) { m.Procs[1].Outs[0] = 1 << 62 })},
	}
}

// setReal sets the real cell.
func setReal(f api.Form) api.Cmd { return set(3, f) }

func commandFaults() []fault {
	half := fraction(1, 2)
	kinds := func(kinds ...int) []api.Module {
		var l []api.Module
		for _, kind := range kinds {
			l = append(l, inBlocks(api.Cmd{Kind: kind})...)
		}
		return l
	}
	return []fault{
		{"the kind of a command exists", kinds(0, 8, -1, 1<<62)},
		{"as many Args as Outs", slices.Concat(inBlocks(setAll([]int{0, 1}, num(1))), inBlocks(setAll([]int{0}, num(1), num(2))), inBlocks(setAll(nil, num(1))))},
		{"at least one of Args", inBlocks(api.Cmd{Kind: api.CmdSet})},
		{"Outs of an assignment are cells", slices.Concat(inBlocks(set(7, num(1))), inBlocks(set(-1, num(1))), inBlocks(setAll([]int{0, 1 << 62}, num(1), num(1))))},
		{"Outs of an assignment are different", slices.Concat(inBlocks(setAll([]int{0, 0}, num(1), num(1))), inBlocks(setAll([]int{1, 0, 1}, num(1), num(2), num(1))))},
		{"a real value for a cell that is not real", slices.Concat(inBlocks(set(0, half)), inBlocks(setAll([]int{1, 0}, num(1), node(api.FoAdd, num(1), half))), inPlaces(set(2, variable(3))), inPlaces(setAll([]int{3, 2}, half, half)))},
		{"Var of a draw is a cell", slices.Concat(inBlocks(draw(7, fair(2))), inBlocks(draw(-1, fair(2))), inPlaces(draw(1<<62, api.Dist{Kind: api.DistBeta, Low: 1, High: 1})))},
		{"the cell for a distribution", slices.Concat(inPlaces(draw(3, fair(2))), inPlaces(draw(3, api.Dist{Kind: api.DistNested})), inBlocks(draw(0, api.Dist{Kind: api.DistGeometric})), inBlocks(draw(1, api.Dist{Kind: api.DistGeometric})), inPlaces(draw(3, api.Dist{Kind: api.DistGeometric})),
			inBlocks(draw(0, api.Dist{Kind: api.DistInterval, To: ratio(1, 1)})), inBlocks(draw(1, api.Dist{Kind: api.DistInterval, To: ratio(1, 1)})), inPlaces(draw(2, api.Dist{Kind: api.DistInterval, To: ratio(1, 1)})), inBlocks(draw(0, api.Dist{Kind: api.DistBeta, Low: 1, High: 1})), inBlocks(draw(1, api.Dist{Kind: api.DistBeta, Low: 1, High: 1})), inPlaces(draw(2, api.Dist{Kind: api.DistBeta, Low: 1, High: 1})))},
		{"a condition is not real", slices.Concat(inBlocks(branch(half, nil, nil)), inPlaces(branch(variable(3), nil, nil)))},
		{"an observation is not real", slices.Concat(inBlocks(observe(half)), inPlaces(observe(variable(3))))},
		{"the form of a loop is not real", slices.Concat(inPlaces(loop(half)), inPlaces(loop(variable(3))))},
		{"a procedure is called", slices.Concat(inPlaces(call(2, []int{0})), inPlaces(call(-1, []int{0})), inPlaces(call(1<<62, []int{0})))},
		{"an argument of a call is not real", slices.Concat(inPlaces(call(0, []int{0, 1}, half)), inPlaces(call(1, []int{0}, num(1), variable(3))))},
		{"Outs of a call are cells", slices.Concat(inPlaces(call(0, []int{0, 7}, num(1))), inPlaces(call(1, []int{-1}, num(1), num(1))))},
		{"Outs of a call are different", inPlaces(call(0, []int{1, 1}, num(1)))},
		{"Outs of a call are not real", slices.Concat(inPlaces(call(0, []int{0, 3}, num(1))), inPlaces(call(1, []int{3}, num(1), num(1))))},
		{"as many Args as the procedure has", slices.Concat(inPlaces(call(0, []int{0, 1})), inPlaces(call(0, []int{0, 1}, num(1), num(1))), inPlaces(call(1, []int{1}, num(1))))},
		{"as many Outs as the procedure has", slices.Concat(inPlaces(call(0, []int{0}, num(1))), inPlaces(call(0, nil, num(1))), inPlaces(call(1, []int{0, 1}, num(1), num(1))))},
	}
}

// inForms returns modules with the form at all places where a form that is not real stands.
func inForms(f api.Form) []api.Module {
	l := slices.Concat(inBlocks(set(1, f)), inBlocks(setAll([]int{1, 0}, num(1), f)), inBlocks(branch(f, nil, nil)), inBlocks(observe(f)), inPlaces(loop(f)), inPlaces(call(0, []int{0, 1}, f)), inPlaces(call(1, []int{1}, num(1), f)))
	for _, op := range []int{api.FoAnd, api.FoOr, api.FoEq, api.FoLt, api.FoLe, api.FoAdd, api.FoSub, api.FoMul} {
		l = append(l, with(observe(node(op, f, num(1)))), with(observe(node(op, num(1), f))))
	}
	return append(l, with(observe(node(api.FoNot, f))), with(observe(node(api.FoCond, f, num(1), num(1)))), with(observe(node(api.FoCond, num(1), f, num(1)))), with(observe(node(api.FoCond, num(1), num(1), f))))
}

// A command on the deepest level is examined, too.
func TestDeepFaults(t *testing.T) {
	met := map[string]bool{}
	for _, inElse := range []bool{false, true} {
		for i := range parts(&api.Module{Procs: make([]api.Proc, 2), Nested: make([]api.Module, 2)}) {
			m := empty()
			body := parts(&m)[i]
			*body = list(maxLevels-1, inElse)
			inner := body
			for len(*inner) > 1 {
				if c := &(*inner)[1]; inElse {
					inner = &c.Else
				} else {
					inner = &c.Then
				}
			}
			*inner = []api.Cmd{branch(num(1), []api.Cmd{set(7, num(1))}, nil)}
			checkFault(t, met, "Outs of an assignment are cells", m)
			*inner = []api.Cmd{branch(num(1), []api.Cmd{set(0, num(1))}, []api.Cmd{set(0, num(1)), observe(variable(2))})}
			checkFault(t, met, "a variable is a cell", m)
			*inner = []api.Cmd{branch(num(1), []api.Cmd{set(0, num(1))}, []api.Cmd{set(0, num(1)), observe(variable(1))})}
			checkModule(t, "200 levels", m, api.OK)
		}
	}
}

// withArgs returns a form with this number of arguments.
func withArgs(op, n int) api.Form {
	return api.Form{Op: op, Args: slices.Repeat([]api.Form{num(1)}, n)}
}

// inAll returns the modules with each of the forms.
func inAll(l ...api.Form) []api.Module {
	var all []api.Module
	for _, f := range l {
		all = append(all, inForms(f)...)
	}
	return all
}

func formFaults() []fault {
	half := fraction(1, 2)
	var counts, ints, rats, reals []api.Form
	for op, n := range []int{0, 0, 0, 0, 1, 2, 2, 2, 2, 2, 2, 2, 2, 3} {
		for _, k := range []int{0, 1, 2, 3, 4} {
			if k != n && op != 0 && op != api.FoRat {
				counts = append(counts, withArgs(op, k))
			}
		}
		if op >= api.FoNot {
			f, g, h := withArgs(op, n), withArgs(op, n), withArgs(op, n)
			f.Int, g.Int, h.Rat = 1, -1, ratio(0, 1)
			ints, rats = append(ints, f, g), append(rats, h)
		}
	}
	for i := range 3 {
		l := []api.Form{num(1), num(1), num(1)}
		l[i] = half
		reals = append(reals, node(api.FoCond, l...))
	}
	for _, op := range []int{api.FoAnd, api.FoOr, api.FoEq} {
		reals = append(reals, node(op, half, num(1)), node(op, num(1), half), node(op, num(1), node(api.FoSub, half, num(1))))
	}
	reals = append(reals, node(api.FoNot, half), node(api.FoNot, node(api.FoMul, num(2), half)))
	rats = append(rats, api.Form{Op: api.FoInt, Rat: ratio(0, 1)}, api.Form{Op: api.FoVar, Rat: api.Rat{Neg: true}}, api.Form{Op: api.FoInt, Rat: api.Rat{Num: []uint32{0}}}, api.Form{Op: api.FoInt, Rat: api.Rat{Den: []uint32{0}}})
	x, y := variable(3), node(api.FoSub, num(1), variable(1))
	var products []api.Module
	for _, c := range [][2]api.Form{{x, x}, {x, y}, {y, x}, {x, variable(0)}, {node(api.FoAdd, half, variable(0)), variable(1)}, {node(api.FoMul, half, x), node(api.FoLt, variable(0), num(1))}} {
		products = append(products, with(setReal(node(api.FoMul, c[0], c[1]))), with(observe(node(api.FoLt, node(api.FoAdd, num(1), node(api.FoMul, c[0], c[1])), num(1)))))
	}
	return []fault{
		{"the operator exists", inAll(api.Form{}, withArgs(14, 2), withArgs(-1, 0), withArgs(1<<62, 1), api.Form{Op: 14})},
		{"the number of arguments", append(inAll(counts...), with(setReal(api.Form{Op: api.FoRat, Args: []api.Form{num(1)}})))},
		{"Int is not used", append(inAll(ints...), with(setReal(api.Form{Op: api.FoRat, Int: 1})))},
		{"Rat is not used", inAll(rats...)},
		{"a variable is a cell", inAll(variable(7), variable(-1), variable(1<<62), variable(-1<<63))},
		{"an argument is not real", inAll(reals...)},
		{"an argument of a real product has no variable", products},
	}
}

func distFaults() []fault {
	draws := func(cell int, l ...api.Dist) []api.Module {
		var all []api.Module
		for _, d := range l {
			if cell <= 1 {
				all = append(all, inBlocks(draw(cell, d))...)
			} else {
				all = append(all, inPlaces(draw(cell, d))...)
			}
		}
		return all
	}
	tables := func(l ...[]api.Poly) []api.Module {
		return draws(1, each(l, func(w []api.Poly) api.Dist { return table(0, w...) })...)
	}
	one, p := ratio(1, 1), monomial(ratio(1, 1), 1)
	high, beyond := monomial(one, 17), monomial(one, 0, 0, 1)
	negative, bad := api.Poly{{Coef: ratio(1, 2)}, {Coef: ratio(-1, 1)}}, api.Poly{{Mono: api.Mono{-1}, Coef: one}}
	zeroCoef := api.Poly{{Coef: one}, {Mono: api.Mono{7: api.MaxExp + 1}, Coef: api.Rat{}}}
	return []fault{
		{"at least one weight", tables(nil)},
		{"at most MaxOutcomes weights", tables(slices.Repeat([]api.Poly{constant(1, 17)}, 17), slices.Repeat([]api.Poly{constant(1, 100)}, 100))},
		{"Low of a table", draws(1, table(-1001, constant(1, 1)), table(1001, constant(1, 1)), table(1<<63-1, constant(1, 2), constant(1, 2)), table(-1<<63, constant(1, 2), constant(1, 2)))},
		{"the greatest outcome of a table", draws(1, table(1000, constant(1, 2), constant(1, 2)), table(986, slices.Repeat([]api.Poly{constant(1, 16)}, 16)...))},
		{"a weight is a valid polynomial", tables([]api.Poly{bad, rest(bad)}, []api.Poly{constant(1, 1), bad}, []api.Poly{zeroCoef}, []api.Poly{{{Mono: api.Mono{api.MaxExp + 1}, Coef: one}}})},
		{"no exponent greater than MaxWeight", slices.Concat(inPlaces(draw(1, table(0, high, rest(high)))), inPlaces(draw(1, table(0, constant(1, 1), high, rest(constant(1, 1), high)))), inPlaces(draw(1, table(0, monomial(one, 1, 17), rest(monomial(one, 1, 17))))))},
		{"no variable beyond the parameters", slices.Concat(tables([]api.Poly{beyond, rest(beyond)}), inPlaces(draw(1, table(0, monomial(one, 1, 0, 0, 0, 0, 0, 0, 1), rest(monomial(one, 1, 0, 0, 0, 0, 0, 0, 1))))), spoilings(func(m *api.Module) { m.Nested[1].Body = []api.Cmd{draw(0, table(0, p, rest(p)))} }, func(m *api.Module) { m.Nested[0].Body = []api.Cmd{draw(0, table(0, p, rest(p)))} }))},
		{"no weight is a negative constant", slices.Concat(tables([]api.Poly{constant(-1, 1), constant(2, 1)}, []api.Poly{constant(3, 2), negative}), inPlaces(draw(1, table(0, constant(-1, 5), p, rest(constant(-1, 5), p)))))},
		{"the sum of the weights is 1", slices.Concat(tables([]api.Poly{constant(1, 2)}, []api.Poly{nil}, []api.Poly{constant(1, 2), constant(2, 3)}), inPlaces(draw(1, table(0, p, rest(monomial(one, 2))))), inPlaces(draw(1, table(0, p))))},
		{"From is at least 0", draws(2, api.Dist{Kind: api.DistGeometric, From: ratio(-1, 2)}, api.Dist{Kind: api.DistGeometric, From: ratio(-7, 1)})},
		{"From is less than 1", draws(2, api.Dist{Kind: api.DistGeometric, From: ratio(1, 1)}, api.Dist{Kind: api.DistGeometric, From: ratio(4, 3)}, api.Dist{Kind: api.DistGeometric, From: api.Rat{Num: []uint32{2}, Den: []uint32{2, 0}}})},
		{"From is less than To", draws(3, api.Dist{Kind: api.DistInterval}, api.Dist{Kind: api.DistInterval, From: ratio(1, 2), To: api.Rat{Num: []uint32{2}, Den: []uint32{4}}}, api.Dist{Kind: api.DistInterval, From: ratio(1, 2), To: ratio(1, 3)}, api.Dist{Kind: api.DistInterval, From: api.Rat{Neg: true}, To: api.Rat{Num: []uint32{1}}})},
		{"Low of a beta density", draws(3, api.Dist{Kind: api.DistBeta, High: 1}, api.Dist{Kind: api.DistBeta, Low: 7, High: 1}, api.Dist{Kind: api.DistBeta, Low: -1 << 63, High: 1})},
		{"High of a beta density", draws(3, api.Dist{Kind: api.DistBeta, Low: 1}, api.Dist{Kind: api.DistBeta, Low: 6, High: 7}, api.Dist{Kind: api.DistBeta, Low: 1, High: -1})},
		{"Low is a nested module", slices.Concat(inPlaces(draw(0, api.Dist{Kind: api.DistNested, Low: 2})), inPlaces(draw(0, api.Dist{Kind: api.DistNested, Low: -1})), spoilings(
			func(m *api.Module) { m.Nested[0].Body = []api.Cmd{draw(0, api.Dist{Kind: api.DistNested})} },
			func(m *api.Module) { m.Nested[1].Body = []api.Cmd{draw(0, api.Dist{Kind: api.DistNested, Low: 1})} },
			func(m *api.Module) { m.Nested[1].Body = []api.Cmd{draw(0, api.Dist{Kind: api.DistNested, Low: -1})} },
			func(m *api.Module) { m.Procs[0].Body = []api.Cmd{draw(0, api.Dist{Kind: api.DistNested, Low: 2})} },
			func(m *api.Module) {
				m.Procs[0].Body = []api.Cmd{draw(0, api.Dist{Kind: api.DistNested, Low: 1 << 62})}
			},
		))},
	}
}

// What is only just permitted.
func TestWellFormed(t *testing.T) {
	x, y, half := variable(3), node(api.FoSub, num(1), variable(1)), fraction(1, 2)
	one, p := ratio(1, 1), monomial(ratio(1, 1), 1)
	big := monomial(one, 16, 16)
	var l []api.Module
	for _, c := range []api.Cmd{
		set(0, num(1<<62)), set(2, num(-1<<63)), setReal(api.Form{Op: api.FoRat}), setReal(api.Form{Op: api.FoRat, Rat: api.Rat{Neg: true, Num: []uint32{4, 0}, Den: []uint32{6}}}), setReal(variable(2)), setReal(num(1)),
		setAll([]int{6, 5, 4, 3, 2, 1, 0}, num(1), num(1), num(1), half, num(1), num(1), num(1)),
		setReal(node(api.FoMul, half, x)), setReal(node(api.FoMul, x, half)), setReal(node(api.FoMul, node(api.FoLt, half, num(1)), x)), setReal(node(api.FoMul, half, y)), setReal(node(api.FoMul, node(api.FoSub, num(3), half), node(api.FoMul, half, node(api.FoAdd, x, y)))), setReal(node(api.FoMul, half, half)),
		set(0, node(api.FoMul, node(api.FoLt, x, y), node(api.FoLe, x, x))), observe(node(api.FoMul, variable(1), variable(2))), setReal(node(api.FoAdd, x, x)), setReal(node(api.FoSub, y, x)), observe(node(api.FoLe, half, half)), observe(node(api.FoNot, node(api.FoLt, x, half))),
		branch(num(0), nil, nil), loop(num(0)), call(0, []int{2, 1}, num(5)), call(1, []int{2}, variable(2), variable(1)),
		draw(0, table(-1000, constant(1, 1))), draw(1, table(1000, constant(1, 1))), draw(2, table(985, slices.Repeat([]api.Poly{constant(1, 16)}, 16)...)), draw(4, table(0, nil, constant(1, 1), nil)),
		draw(1, table(0, big, rest(big))), draw(1, table(0, monomial(ratio(-1, 1), 1), rest(monomial(ratio(-1, 1), 1)))), draw(1, table(0, constant(3, 1), p, rest(constant(3, 1), p))),
		draw(1, table(0, append(constant(1, 1), slices.Concat(monomial(one, 1024), monomial(ratio(-1, 1), 1024), monomial(one, 0, 0, 0, 0, 0, 0, 0, 3), monomial(ratio(-1, 1), 0, 0, 0, 0, 0, 0, 0, 3))...))),
		draw(1, table(0, append(constant(1, 4), constant(-1, 4)...), append(constant(-1, 4), constant(5, 4)...))),
		draw(2, api.Dist{Kind: api.DistGeometric}), draw(2, api.Dist{Kind: api.DistGeometric, From: ratio(999999, 1000000)}), draw(2, api.Dist{Kind: api.DistGeometric, From: api.Rat{Neg: true, Num: []uint32{7}}}),
		draw(3, api.Dist{Kind: api.DistInterval, From: ratio(-1, 1)}), draw(3, api.Dist{Kind: api.DistInterval, From: ratio(333333, 1000000), To: ratio(1, 3)}), draw(3, api.Dist{Kind: api.DistBeta, Low: 6, High: 6}), draw(3, api.Dist{Kind: api.DistBeta, Low: 1, High: 1}),
		draw(2, api.Dist{Kind: api.DistNested, Low: 1}), draw(4, api.Dist{Kind: api.DistNested}),
	} {
		l = append(l, inPlaces(c)...)
	}
	l = append(l, spoilings(
		func(m *api.Module) {
			m.Params = 3
			m.Body = []api.Cmd{draw(1, table(0, monomial(one, 16, 16, 16), rest(monomial(one, 16, 16, 16))))}
		},
		func(m *api.Module) {
			m.Procs[0].Body = []api.Cmd{draw(1, table(0, monomial(one, 0, 16), rest(monomial(one, 0, 16))))}
		},
		func(m *api.Module) {
			m.Procs = append(m.Procs, slices.Repeat(m.Procs[:1], 6)...)
			m.Body = append(m.Body, call(7, []int{0, 1}, num(1)))
		},
		func(m *api.Module) {
			m.Procs[0] = api.Proc{Cells: []api.Cell{truth}, Outs: []int{0, 0, 0}}
			m.Procs[1].Body, m.Body = nil, []api.Cmd{call(0, []int{0, 1, 2})}
		},
		func(m *api.Module) {
			m.Nested = append(m.Nested, slices.Repeat(m.Nested[1:], 6)...)
			m.Nested[7].Body = []api.Cmd{draw(0, api.Dist{Kind: api.DistNested, Low: 6})}
		},
		func(m *api.Module) {
			m.Nested[1].Cells[1].High = 13
			m.Nested[1].Type = api.Type{Kind: api.TypeInt, Low: -2, High: 13}
			m.Nested[1].Outs[0] = 1
		},
		func(m *api.Module) { m.Outs[1] = 6 },
		func(m *api.Module) { m.Type, m.Outs = api.Type{Kind: api.TypeReal}, []int{3} },
		func(m *api.Module) { m.Type, m.Outs = api.Type{Kind: api.TypeNat}, []int{2} },
		func(m *api.Module) {
			m.Cells = append(m.Cells, api.Cell{Kind: api.TypeInt, Low: -1000, High: -1000}, api.Cell{Kind: api.TypeInt, Low: 1000, High: 1000}, api.Cell{Kind: api.TypeInt, Low: -1000, High: 1000})
		},
	)...)
	l = append(l, module([]api.Cell{truth}), api.Module{Cells: []api.Cell{truth}, Outs: []int{0, 0}, Type: api.Type{Kind: api.TypeTuple, Elems: []api.Type{boolean, boolean}}})
	for _, m := range l {
		if faults := faultsOf(m); len(faults) > 0 {
			t.Errorf("%+v has the faults %v", m.Body, faults)
		}
		checkModule(t, show(m.Body), m, api.OK)
	}
	checkModule(t, "the module without anything", api.Module{}, api.ErrForm)
}
