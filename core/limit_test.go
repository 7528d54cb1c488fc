package core_test

import (
	"fmt"
	"slices"
	"testing"
	"time"

	"exactppl/api"
	"exactppl/core"
)

// P13.1: the limits

const maxLevels = 200

// deep returns a form of the depth n.
func deep(n int) api.Form {
	f := num(1)
	for range n - 1 {
		f = node(api.FoNot, f)
	}
	return f
}

// sized returns a form of the size n with a depth of at most 31.
func sized(n int) api.Form {
	switch {
	case n == 1:
		return num(1)
	case n%2 == 0:
		return node(api.FoNot, sized(n-1))
	}
	return node(api.FoAdd, sized(1+(n-3)/2), sized(n-2-(n-3)/2))
}

// list returns a list of commands of the depth n.
func list(n int, inElse bool) []api.Cmd {
	l := []api.Cmd{set(0, num(1))}
	for range n - 1 {
		c := branch(num(1), l, nil)
		if inElse {
			c.Then, c.Else = nil, l
		}
		l = []api.Cmd{set(0, num(0)), c}
	}
	return l
}

// empty has the blocks of a module, without commands. The cells 0 and 1 are finite.
func empty() api.Module {
	p := api.Proc{Cells: []api.Cell{truth, small}, Args: 1, Outs: []int{0}}
	return copyOf(api.Module{Cells: []api.Cell{truth, small}, Procs: []api.Proc{p, p}, Nested: []api.Module{nested(), nested()}, Outs: []int{0}, Type: boolean})
}

// parts returns the places of the bodies of a module.
func parts(m *api.Module) []*[]api.Cmd {
	l := []*[]api.Cmd{&m.Body}
	for i := range m.Procs {
		l = append(l, &m.Procs[i].Body)
	}
	for i := range m.Nested {
		l = append(l, &m.Nested[i].Body)
	}
	return l
}

// checkInBlocks checks the error of the module with the commands in one of its blocks. Loops, calls and cuts must not stand in nested modules.
func checkInBlocks(t *testing.T, what string, l []api.Cmd, want api.Errno) {
	t.Helper()
	m := empty()
	for i, body := range parts(&m) {
		forbidden := slices.ContainsFunc(flat(l), func(c api.Cmd) bool { return slices.Contains([]int{api.CmdWhile, api.CmdCall, api.CmdCut}, c.Kind) })
		if forbidden && i > len(m.Procs) && want == api.OK {
			continue
		}
		*body = l
		if isTooLarge(m) != (want == api.ErrLimit) {
			t.Errorf("%s: the definition has no error %d", what, want)
		}
		checkModule(t, fmt.Sprint(what, " in block ", i), m, want)
		*body = nil
	}
}

// inCommands returns lists of commands in which the form stands at each place.
func inCommands(f api.Form) [][]api.Cmd {
	l := [][]api.Cmd{{set(0, f)}, {setAll([]int{0, 1}, num(1), f)}, {branch(f, nil, nil)}, {observe(f)}, {loop(f)}, {call(1, []int{0}, f)}}
	for _, c := range slices.Clone(l) {
		l = append(l, []api.Cmd{branch(num(1), c, nil)}, []api.Cmd{set(0, num(1)), branch(num(1), nil, c)}, []api.Cmd{loop(num(1), branch(num(1), nil, c))})
	}
	return l
}

func TestDepthOfForms(t *testing.T) {
	wide := func(n int) api.Form { return node(api.FoCond, num(1), num(1), deep(n-1)) }
	for _, form := range []func(int) api.Form{deep, wide} {
		for _, l := range inCommands(form(maxLevels)) {
			checkInBlocks(t, "200 levels", l, api.OK)
		}
		for _, n := range []int{maxLevels + 1, maxLevels + 2, 5000} {
			for _, l := range inCommands(form(n)) {
				checkInBlocks(t, show(n)+" levels", l, api.ErrLimit)
			}
		}
	}
	// Forms in fields that are not used are forms, too.
	for _, c := range []api.Cmd{{Kind: api.CmdCut}, {Kind: api.CmdDraw}, {Kind: api.CmdSet}, {Kind: api.CmdCall}, {Kind: 9}, {}} {
		c.Form = deep(maxLevels)
		checkInBlocks(t, "200 levels in a field that is not used", []api.Cmd{c}, api.ErrForm)
		c.Form = deep(maxLevels + 1)
		checkInBlocks(t, "201 levels in a field that is not used", []api.Cmd{c}, api.ErrLimit)
	}
	for _, c := range []api.Cmd{cut, observe(num(1)), loop(num(1)), branch(num(1), nil, nil)} {
		c.Args = []api.Form{num(1), deep(maxLevels)}
		checkInBlocks(t, "200 levels in Args that are not used", []api.Cmd{c}, api.ErrForm)
		c.Args[1] = deep(maxLevels + 1)
		checkInBlocks(t, "201 levels in Args that are not used", []api.Cmd{c}, api.ErrLimit)
	}
}

func TestDepthOfLists(t *testing.T) {
	for _, inElse := range []bool{false, true} {
		checkInBlocks(t, "200 levels", list(maxLevels, inElse), api.OK)
		for _, n := range []int{maxLevels + 1, 2 * maxLevels} {
			checkInBlocks(t, show(n)+" levels", list(n, inElse), api.ErrLimit)
		}
	}
	loops := []api.Cmd{cut}
	for range maxLevels - 1 {
		loops = []api.Cmd{loop(num(1), loops...)}
	}
	checkInBlocks(t, "200 levels of loops", loops, api.OK)
	checkInBlocks(t, "201 levels of loops", []api.Cmd{loop(num(1), loops...)}, api.ErrLimit)
	// The deepest list can be empty.
	inner := list(maxLevels, false)
	for l := inner; ; l = l[1].Then {
		if len(l) == 1 {
			l[0] = branch(num(1), []api.Cmd{}, nil)
			break
		}
	}
	checkInBlocks(t, "200 levels and an empty list", inner, api.OK)
	// A deep form can stand in a deep list.
	for l := inner; ; l = l[1].Then {
		if len(l) == 1 {
			l[0] = observe(deep(maxLevels))
			break
		}
	}
	checkInBlocks(t, "200 levels of both", inner, api.OK)
	// Commands in commands that do not use them.
	c := observe(num(1))
	c.Else = list(maxLevels-1, false)
	checkInBlocks(t, "200 levels in a field that is not used", []api.Cmd{c}, api.ErrForm)
	c.Else = list(maxLevels, false)
	checkInBlocks(t, "201 levels in a field that is not used", []api.Cmd{c}, api.ErrLimit)
}

func TestSizeOfForms(t *testing.T) {
	for _, n := range []int{1, 2, 999, api.MaxForm} {
		if _, size := extent(sized(n)); size != n {
			t.Fatalf("sized(%d) has the size %d", n, size)
		}
	}
	for _, l := range inCommands(sized(api.MaxForm)) {
		checkInBlocks(t, "MaxForm", l, api.OK)
	}
	for _, n := range []int{api.MaxForm + 1, api.MaxForm + 2, 5 * api.MaxForm} {
		for _, l := range inCommands(sized(n)) {
			checkInBlocks(t, fmt.Sprint("the size ", n), l, api.ErrLimit)
		}
	}
	c := cut
	c.Form = sized(api.MaxForm)
	checkInBlocks(t, "MaxForm in a field that is not used", []api.Cmd{c}, api.ErrForm)
	c.Form = sized(api.MaxForm + 1)
	checkInBlocks(t, "too large in a field that is not used", []api.Cmd{c}, api.ErrLimit)
}

// spread returns the module with n commands of its blocks, in several ways: the numbers are those in the bodies.
func spread(n int) [][5]int {
	return [][5]int{{n}, {0, n}, {0, 0, n}, {0, 0, 0, n}, {0, 0, 0, 0, n}, {n / 5, n / 5, n / 5, n / 5, n - 4*(n/5)}, {n - 4, 1, 1, 1, 1}, {1, 1, 1, n - 4, 1}}
}

func TestNumberOfCommands(t *testing.T) {
	m := empty()
	for _, unit := range [][]api.Cmd{{set(0, num(1))}, {draw(0, fair(2))}, {branch(num(1), []api.Cmd{set(0, num(1)), set(0, num(1))}, []api.Cmd{observe(num(1))})}, {branch(num(1), nil, []api.Cmd{branch(num(0), []api.Cmd{set(0, num(0))}, nil), set(0, num(1))})}} {
		for _, counts := range spread(api.MaxCommands) {
			for i, body := range parts(&m) {
				k := len(flat(unit))
				*body = append(slices.Repeat(unit, counts[i]/k), slices.Repeat([]api.Cmd{set(0, num(1))}, counts[i]%k)...)
			}
			checkModule(t, fmt.Sprint("MaxCommands as ", counts), m, api.OK)
			for i, body := range parts(&m) {
				before := *body
				for _, c := range []api.Cmd{set(0, num(1)), {Kind: 77}} {
					*body = append(slices.Clone(before), c)
					checkModule(t, fmt.Sprint("one more in block ", i, " as ", counts), m, api.ErrLimit)
				}
				*body = before
			}
		}
	}
}

// observations returns observations whose forms have the size n together.
func observations(n int) []api.Cmd {
	var l []api.Cmd
	for n > api.MaxForm {
		l, n = append(l, observe(sized(api.MaxForm))), n-api.MaxForm
	}
	if n > 0 {
		l = append(l, observe(sized(n)))
	}
	return l
}

func TestSizesTogether(t *testing.T) {
	m := empty()
	units := [][]api.Cmd{{observe(num(1))}, {branch(num(1), nil, nil)}, {set(1, num(1))}, {setAll([]int{0, 1}, num(1), sized(7))}, {branch(num(1), []api.Cmd{observe(num(1))}, []api.Cmd{set(0, node(api.FoNot, num(1)))})}, {draw(0, fair(2))}}
	for i, body := range parts(&m) {
		blockUnits := units
		if i <= len(m.Procs) {
			blockUnits = append(slices.Clone(units), []api.Cmd{cut}, []api.Cmd{loop(num(1), cut)}, []api.Cmd{call(0, []int{0}, sized(5))})
		}
		for k, unit := range blockUnits {
			all := spread(api.MaxForms - sumOf(unit))
			counts := all[(i+k)%len(all)]
			for j, other := range parts(&m) {
				*other = observations(counts[j])
			}
			*body = append(*body, unit...)
			what := fmt.Sprint("MaxForms with ", unit, " in block ", i, " as ", counts)
			checkError(t, what, m, api.OK)
			for _, more := range [][]api.Cmd{{observe(num(1))}, {set(0, num(1))}, {branch(num(0), nil, nil)}, {{Kind: api.CmdWhile, Form: num(1)}}, {{Kind: 99, Args: make([]api.Form, 1)}}} {
				before := *body
				*body = append(slices.Clone(before), more...)
				checkError(t, what+" and one more", m, api.ErrLimit)
				*body = before
			}
			*body = append(*body, cut, api.Cmd{Kind: 99, Form: sized(api.MaxForm)})
			checkError(t, what+" and a form that is not used", m, api.ErrForm)
		}
	}
}

// sumOf returns the sizes of the forms of l together.
func sumOf(l []api.Cmd) int {
	sum := 0
	for _, c := range flat(l) {
		for _, f := range c.Args {
			_, size := extent(f)
			sum += size
		}
		if slices.Contains([]int{api.CmdIf, api.CmdObserve, api.CmdWhile}, c.Kind) {
			_, size := extent(c.Form)
			sum += size
		}
	}
	return sum
}

func TestNumberOfCells(t *testing.T) {
	m := empty()
	cells := []*[]api.Cell{&m.Cells, &m.Procs[0].Cells, &m.Procs[1].Cells, &m.Nested[0].Cells, &m.Nested[1].Cells}
	most := append([]api.Cell{truth, small}, slices.Repeat([]api.Cell{truth}, api.MaxCells-2)...)
	for _, l := range cells {
		*l = most
	}
	checkModule(t, "MaxCells", m, api.OK)
	for i, l := range cells {
		for _, c := range []api.Cell{truth, {}} {
			*l = append(slices.Clone(most), c)
			checkModule(t, fmt.Sprint("one more cell in block ", i), m, api.ErrLimit)
		}
		*l = most
	}
}

// Limits come first, also where a module is not well-formed in many ways. What is inside nested modules inside nested modules is not examined.
func TestLimitsFirst(t *testing.T) {
	wrong := api.Module{Params: 9, Cells: make([]api.Cell, 5), Procs: make([]api.Proc, 20), Nested: make([]api.Module, 20), Body: make([]api.Cmd, 5), Outs: []int{77}}
	checkModule(t, "a wrong module", wrong, api.ErrForm)
	for i, body := range parts(&wrong) {
		*body = []api.Cmd{{Form: deep(maxLevels + 1)}}
		checkModule(t, fmt.Sprint("a deep form in block ", i), wrong, api.ErrLimit)
		*body = list(maxLevels+1, false)
		checkModule(t, fmt.Sprint("a deep list in block ", i), wrong, api.ErrLimit)
		*body = make([]api.Cmd, api.MaxCommands+1)
		checkModule(t, fmt.Sprint("many commands in block ", i), wrong, api.ErrLimit)
		*body = nil
	}
	inner := api.Module{Cells: make([]api.Cell, api.MaxCells+1), Body: append(list(maxLevels+1, false), observe(deep(maxLevels+1)))}
	m := empty()
	m.Nested[1].Nested = []api.Module{inner}
	checkModule(t, "a large module in a nested module", m, api.ErrForm)
}

// A list that is part of itself, or of which very many copies stand in one another, ends, too.
func TestEndlessModules(t *testing.T) {
	start := time.Now()
	doubled, tripled := num(1), num(0)
	for range maxLevels - 1 {
		doubled, tripled = node(api.FoAdd, doubled, doubled), node(api.FoCond, tripled, tripled, tripled)
	}
	loops := []api.Form{num(1)}
	loops[0] = api.Form{Op: api.FoNot, Args: loops}
	l := []api.Cmd{set(0, num(1)), set(0, num(1))}
	for range maxLevels - 1 {
		l = []api.Cmd{branch(num(1), l, l), branch(num(1), l, l)}
	}
	itself := []api.Cmd{branch(num(1), nil, nil)}
	itself[0].Else = itself
	for _, c := range []api.Cmd{observe(doubled), observe(tripled), observe(loops[0]), set(0, doubled), branch(num(1), l, nil), branch(num(1), nil, itself), {Form: doubled}, {Args: slices.Repeat([]api.Form{tripled}, 1000)}} {
		m := module([]api.Cell{truth}, c)
		for _, n := range []api.Module{m, {Procs: []api.Proc{{Body: m.Body}}}, {Nested: []api.Module{m}}} {
			if e := core.Validate(n); e != api.ErrLimit {
				t.Errorf("the error is %d", e)
			}
			if _, e := core.Number(n); e != api.ErrLimit {
				t.Errorf("the error of Number is %d", e)
			}
		}
	}
	if _, e := core.Eval(loops[0], nil); e != api.ErrLimit {
		t.Errorf("the error of Eval is %d", e)
	}
	if v := core.Reads(node(api.FoAnd, variable(3), loops[0])); !slices.Equal(v, []int{3}) {
		t.Errorf("Reads is %v", v)
	}
	if n := core.Count(itself); n != maxLevels {
		t.Errorf("Count is %d", n)
	}
	if d := time.Since(start); d > 20*time.Second {
		t.Error("it takes", d)
	}
}
