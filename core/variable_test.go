package core_test

import (
	"slices"
	"testing"

	"exactppl/api"
	"exactppl/core"
)

// P13.4: the variables of forms and commands

// formVariables returns the variables of the upper levels of a form.
func formVariables(f api.Form, levels int) []int {
	if levels == 0 {
		return nil
	}
	var l []int
	if f.Op == api.FoVar {
		l = append(l, f.Int)
	}
	for _, arg := range f.Args {
		l = append(l, formVariables(arg, levels-1)...)
	}
	return l
}

// upper returns the commands on the upper levels of a list.
func upper(l []api.Cmd, levels int) []api.Cmd {
	if levels == 0 {
		return nil
	}
	all := slices.Clone(l)
	for _, c := range l {
		all = append(append(all, upper(c.Then, levels-1)...), upper(c.Else, levels-1)...)
	}
	return all
}

func once(l []int) []int {
	var sorted []int
	for _, n := range l {
		if !slices.Contains(sorted, n) {
			sorted = append(sorted, n)
		}
	}
	slices.Sort(sorted)
	return sorted
}

// checkVariables checks Uses, Writes and Count of the commands, and Reads of their forms.
func checkVariables(t *testing.T, l []api.Cmd) {
	t.Helper()
	all := upper(l, maxLevels)
	var used, written []int
	for _, c := range all {
		for _, f := range append(slices.Clone(c.Args), c.Form) {
			want := formVariables(f, maxLevels)
			used = append(used, want...)
			if got := core.Reads(f); !slices.Equal(got, once(want)) {
				t.Errorf("Reads(%+v) is %v, not %v", f, got, once(want))
			}
		}
		written = append(written, c.Outs...)
		if c.Kind == api.CmdDraw {
			written = append(written, c.Var)
		}
	}
	if got := core.Uses(l); !slices.Equal(got, once(used)) {
		t.Errorf("Uses(%+v) is %v, not %v", l, got, once(used))
	}
	if got := core.Writes(l); !slices.Equal(got, once(written)) {
		t.Errorf("Writes(%+v) is %v, not %v", l, got, once(written))
	}
	if got := core.Count(l); got != len(all) {
		t.Errorf("Count(%+v) is %d, not %d", l, got, len(all))
	}
}

func TestVariablesOfRandomModules(t *testing.T) {
	m := newMaker(141)
	for range 3000 {
		x := m.module(m.often(4))
		for m.often(2) {
			m.damage(&x)
		}
		for _, body := range parts(&x) {
			checkVariables(t, *body)
		}
	}
}

func TestVariables(t *testing.T) {
	f := node(api.FoCond, variable(9), node(api.FoNot, variable(4)), node(api.FoMul, variable(9), node(api.FoEq, num(8), variable(0))))
	outs := set(7, f)
	outs.Kind, outs.Var = api.CmdCut, 20
	for _, l := range [][]api.Cmd{
		nil, {}, {cut}, {set(3, num(1))}, {set(3, f), set(3, f)}, {setAll([]int{5, 2, 11}, f, variable(1), num(2))}, {setAll([]int{1, 0}, variable(0), variable(1))},
		{draw(0, fair(2))}, {draw(6, fair(2)), draw(1, fair(2)), draw(6, fair(2))}, {observe(f)}, {branch(f, []api.Cmd{set(3, variable(2))}, []api.Cmd{draw(8, fair(2)), loop(variable(10), observe(variable(12)), set(14, variable(13)))})}, {call(30, []int{4, 2}, variable(40), f)},
		{outs}, {observe(variable(-1)), set(-5, variable(-3)), draw(-2, fair(2)), set(1<<62, variable(-1<<63))}, {{Form: f, Args: []api.Form{variable(21)}, Then: []api.Cmd{{Outs: []int{22}}}}}, {{Kind: api.CmdObserve, Var: 3, Else: []api.Cmd{set(5, variable(6))}}},
		{{Kind: api.CmdIf, Form: api.Form{Op: 77, Int: 5, Args: []api.Form{{Op: api.FoVar, Int: 2, Args: []api.Form{variable(1)}}}}}},
	} {
		checkVariables(t, l)
	}
	if got := core.Reads(f); !slices.Equal(got, []int{0, 4, 9}) {
		t.Errorf("Reads is %v", got)
	}
}

// What is deeper than 200 levels counts as absent. A list of commands and a form in it have levels of their own.
func TestDeepVariables(t *testing.T) {
	under := func(f api.Form, n int) api.Form {
		for i := range n {
			f = node(api.FoAdd, variable(1000+i), f)
		}
		return f
	}
	for _, n := range []int{maxLevels - 2, maxLevels - 1, maxLevels, maxLevels + 1, 3 * maxLevels} {
		f := under(variable(1), n)
		if got := core.Reads(node(api.FoSub, f, variable(-7))); got[0] != -7 {
			t.Errorf("Reads stops behind %d levels: %v", n, got)
		}
		if got := slices.Contains(core.Reads(f), 1); got != (n < maxLevels) {
			t.Errorf("Reads finds the variable below %d levels: %v", n, got)
		}
		checkVariables(t, []api.Cmd{observe(f)})
		for _, inElse := range []bool{false, true} {
			l := []api.Cmd{set(2, f), draw(3, fair(2))}
			for range n {
				l = []api.Cmd{{Kind: api.CmdIf, Form: variable(7), Then: l}}
				if inElse {
					l[0].Then, l[0].Else = nil, l[0].Then
				}
			}
			checkVariables(t, append(slices.Clone(l), set(4, variable(5))))
			checkVariables(t, []api.Cmd{branch(num(1), l, l)})
			checkVariables(t, l)
			if got := core.Count(l); got != min(n, maxLevels)+2*max(0, min(1, maxLevels-n)) {
				t.Errorf("Count is %d for %d levels", got, n)
			}
			if got := slices.Equal(core.Writes(l), []int{2, 3}); got != (n < maxLevels) {
				t.Errorf("Writes finds the variables below %d levels: %v", n, got)
			}
			if got := slices.Contains(core.Uses(l), 1); got != (n < maxLevels) {
				t.Errorf("Uses finds the variable below %d levels: %v", n, got)
			}
		}
	}
	deepest := []api.Cmd{observe(under(variable(1), maxLevels-1))}
	for range maxLevels - 1 {
		deepest = []api.Cmd{branch(num(1), nil, deepest)}
	}
	if got := core.Uses(deepest); len(got) != maxLevels || got[0] != 1 {
		t.Errorf("Uses is %v", got)
	}
}
