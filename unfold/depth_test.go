package unfold_test

import (
	"fmt"
	"slices"
	"testing"
	"time"

	"exactppl/api"
	"exactppl/core"
	"exactppl/unfold"
)

// P14.3: Complete and Depth

func hasDraw(m api.Module, kind int) bool {
	return slices.ContainsFunc(all(m), func(c api.Cmd) bool { return c.Dist.Kind == kind })
}

// checkComplete checks Complete by the definition.
func checkComplete(t *testing.T, m api.Module) {
	t.Helper()
	want := core.Straight(m)
	if want {
		for _, c := range flat(m.Body) {
			want = want && c.Kind != api.CmdCut
		}
	}
	if got := unfold.Complete(m); got != want {
		t.Errorf("Complete(%.2000s) is %v", show(m), got)
	}
}

// callsOf returns the procedures that are called in l, also inside other commands.
func callsOf(l []api.Cmd) []int {
	var called []int
	for _, c := range flat(l) {
		if c.Kind == api.CmdCall {
			called = append(called, c.Var)
		}
	}
	slices.Sort(called)
	return slices.Compact(called)
}

// depthOf returns the depth and the error of Depth by the definition.
func depthOf(m api.Module) (int, api.Errno) {
	if e := core.Validate(m); e != api.OK {
		return 0, e
	}
	for _, c := range all(m) {
		if c.Kind == api.CmdWhile {
			return 0, api.ErrClass
		}
	}
	reaches := map[[2]int]bool{}
	for i, p := range m.Procs {
		for _, j := range callsOf(p.Body) {
			reaches[[2]int{i, j}] = true
		}
	}
	for k := range m.Procs {
		for i := range m.Procs {
			for j := range m.Procs {
				if reaches[[2]int{i, k}] && reaches[[2]int{k, j}] {
					reaches[[2]int{i, j}] = true
				}
			}
		}
	}
	for i := range m.Procs {
		if reaches[[2]int{i, i}] {
			return 0, api.ErrClass
		}
	}
	return deepest(m, m.Body), api.OK
}

// deepest returns the depth of l in a module in which no procedure can call itself.
func deepest(m api.Module, l []api.Cmd) int {
	depth := 0
	for _, i := range callsOf(l) {
		depth = max(depth, 1+deepest(m, m.Procs[i].Body))
	}
	return depth
}

// checkDepth checks Depth by the definition, and returns what it returns.
func checkDepth(t *testing.T, m api.Module) (int, api.Errno) {
	t.Helper()
	want, code := depthOf(m)
	got, e := unfold.Depth(m)
	if got != want || e != code {
		t.Errorf("Depth(%.2000s) is %d with the error %d, not %d with %d", show(m), got, e, want, code)
	}
	return got, e
}

// calls returns calls of the procedures.
func calls(procs ...int) []api.Cmd {
	return each(procs, func(i int) api.Cmd { return call(i, []int{0}) })
}

// graph returns a module whose procedures call these procedures.
func graph(body []api.Cmd, bodies ...[]api.Cmd) api.Module {
	return module(each(bodies, func(l []api.Cmd) api.Proc { return procedure([]api.Cell{truth}, 0, l...) }), body...)
}

func wantDepth(t *testing.T, what string, m api.Module, depth int, code api.Errno) {
	t.Helper()
	if got, e := checkDepth(t, m); got != depth || e != code {
		t.Errorf("%s: the depth is %d with the error %d, not %d with %d", what, got, e, depth, code)
	}
}

func TestDepth(t *testing.T) {
	wantDepth(t, "no calls", graph(nil), 0, api.OK)
	wantDepth(t, "no calls in the body", graph([]api.Cmd{flip(0), branch(num(0), nil, nil)}, calls(1), nil), 0, api.OK)
	wantDepth(t, "one call", graph(calls(0), nil), 1, api.OK)
	wantDepth(t, "the deeper one of two", graph(calls(0, 1, 2), nil, calls(0), nil), 2, api.OK)
	wantDepth(t, "the deeper one of two, in the other order", graph(calls(2, 1, 0), calls(1), calls(2), nil), 3, api.OK)
	wantDepth(t, "a call that is not first", graph(calls(2, 0), nil, calls(0), calls(0, 1, 0)), 3, api.OK)
	wantDepth(t, "calls that cannot be reached", graph([]api.Cmd{cut, branch(num(0), calls(0), nil)}, []api.Cmd{observe(num(0)), calls(1)[0]}, nil), 2, api.OK)
	for _, inner := range [][]api.Cmd{{branch(num(1), calls(1), nil)}, {branch(num(1), nil, calls(1))}, {flip(0), branch(num(1), nil, []api.Cmd{cut, branch(num(1), calls(1), nil)})}} {
		wantDepth(t, "a call inside another command", graph(inner, nil, calls(2), nil), 2, api.OK)
		wantDepth(t, "a call inside another command of a procedure", graph(calls(0), inner, calls(2), nil), 3, api.OK)
		wantDepth(t, "a call of itself inside another command", graph(nil, nil, inner), 0, api.ErrClass)
	}
	wantDepth(t, "it calls itself", graph(nil, calls(0)), 0, api.ErrClass)
	wantDepth(t, "two call each other", graph(nil, calls(1), calls(0)), 0, api.ErrClass)
	wantDepth(t, "three call each other, and another is called", graph(calls(3), calls(1), calls(2), calls(0), nil), 0, api.ErrClass)
	wantDepth(t, "a draw from a nested module is no error", spoilt(2, api.OK), 0, api.OK)
}

// All eight procedures, in many orders, each one calling those behind it, or only the next one; and the same with one call back.
func TestDepthOfChains(t *testing.T) {
	m := newMaker(151)
	for range 400 {
		n := 1 + m.IntN(api.MaxFuncs)
		order := m.Perm(n)
		bodies := make([][]api.Cmd, n)
		for i := range n - 1 {
			bodies[order[i]] = calls(order[i+1])
			if m.often(2) {
				bodies[order[i]] = calls(order[i+1:]...)
			}
		}
		first := m.IntN(n)
		wantDepth(t, "a chain", graph(calls(order[first]), bodies...), n-first, api.OK)
		wantDepth(t, "all are called", graph(calls(m.Perm(n)...), bodies...), n, api.OK)
		from := m.IntN(n)
		to := m.IntN(from + 1)
		bodies[order[from]] = append(bodies[order[from]], branch(num(0), nil, calls(order[to])))
		wantDepth(t, "a call back", graph(calls(order[first]), bodies...), 0, api.ErrClass)
		wantDepth(t, "a call back and no call in the body", graph(nil, bodies...), 0, api.ErrClass)
	}
}

func TestDepthErrors(t *testing.T) {
	itself := graph(calls(0), calls(0))
	for _, l := range [][]api.Cmd{{loop(num(0))}, {flip(0), branch(num(0), nil, []api.Cmd{loop(num(0))})}, {branch(num(0), []api.Cmd{set(0, num(1)), loop(num(1), cut)}, nil)}} {
		wantDepth(t, "a loop", graph(l), 0, api.ErrClass)
		wantDepth(t, "a loop in a procedure", graph(nil, nil, l), 0, api.ErrClass)
		wantDepth(t, "a loop in a procedure that is called", graph(calls(0), l, nil), 0, api.ErrClass)
		for _, m := range []api.Module{itself, graph(l), graph(nil, l)} {
			m = copyOf(m)
			m.Outs = nil
			wantDepth(t, "Validate comes first", m, 0, api.ErrForm)
			m.Cells = slices.Repeat([]api.Cell{truth}, api.MaxCells+1)
			wantDepth(t, "Validate comes first", m, 0, api.ErrLimit)
		}
	}
	wantDepth(t, "a procedure that does not exist", graph(calls(1), nil), 0, api.ErrForm)
}

func TestComplete(t *testing.T) {
	for _, c := range []struct {
		m    api.Module
		want bool
	}{
		{graph(nil), true}, {graph([]api.Cmd{flip(0), observe(num(0)), set(0, num(1))}), true}, {graph([]api.Cmd{branch(num(1), nil, []api.Cmd{flip(0)})}), true},
		{graph([]api.Cmd{cut}), false}, {graph([]api.Cmd{flip(0), cut}), false}, {graph([]api.Cmd{branch(num(1), []api.Cmd{cut}, nil)}), false}, {graph([]api.Cmd{branch(num(1), nil, []api.Cmd{branch(num(0), nil, []api.Cmd{flip(0), cut})})}), false},
		{graph(nil, nil), false}, {graph(calls(0), nil), false}, {graph([]api.Cmd{loop(num(0))}), false}, {graph([]api.Cmd{flip(0), flip(0)}), false}, {spoilt(6, api.OK), false}, {spoilt(6, api.ErrForm), false}, {api.Module{}, false},
	} {
		checkComplete(t, c.m)
		if got := unfold.Complete(c.m); got != c.want {
			t.Errorf("Complete(%+v) is %v", c.m, got)
		}
	}
	for _, inElse := range []bool{false, true} {
		for levels := range 199 {
			l := []api.Cmd{cut}
			for range levels {
				l = []api.Cmd{branch(num(1), l, nil)}
				if inElse {
					l[0].Then, l[0].Else = nil, l[0].Then
				}
			}
			m := graph(append([]api.Cmd{flip(0)}, l...))
			if checkComplete(t, m); !core.Straight(m) {
				t.Fatal("a module is not straight")
			}
		}
	}
}

// P14.4: a module without loops whose procedures do not call themselves is Complete from its depth on.
func TestCompleteUnfoldings(t *testing.T) {
	for n := range api.MaxFuncs + 1 {
		bodies := make([][]api.Cmd, n)
		for i := range n - 1 {
			bodies[i] = calls(i + 1)
		}
		m := graph(calls(0)[:min(n, 1)], bodies...)
		wantDepth(t, fmt.Sprint(n, " procedures"), m, n, api.OK)
		for k := range api.MaxUnfold + 1 {
			x, e := check(t, m, k)
			if checkComplete(t, x); e != api.OK || unfold.Complete(x) != (k >= n) {
				t.Errorf("with %d procedures and k = %d the error is %d, or Complete is wrong", n, k, e)
			}
		}
	}
}

// Many calls take no long time: each procedure calls the next one 240 times.
func TestDepthOfManyCalls(t *testing.T) {
	start := time.Now()
	var bodies [][]api.Cmd
	for i := range api.MaxFuncs - 1 {
		bodies = append(bodies, slices.Repeat(calls(i+1), 240))
	}
	wantDepth(t, "many calls", graph(calls(0), append(bodies, nil)...), api.MaxFuncs, api.OK)
	wantDepth(t, "many calls of itself", graph(calls(0), append(bodies, calls(0))...), 0, api.ErrClass)
	if d := time.Since(start); d > 10*time.Second {
		t.Error("it takes", d)
	}
}
