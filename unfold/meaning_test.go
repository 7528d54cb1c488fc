package unfold_test

import (
	"fmt"
	"math/big"
	"slices"
	"strings"
	"testing"

	"exactppl/api"
	"exactppl/core"
	"exactppl/polynomial"
	"exactppl/unfold"
)

// P14.4, and what loops and calls mean: a loop is executed at most k times, a call has variables of its own, and at most k calls stand in one another; a run in which there are more is cut.

// state is the values of the variables of the block that is executed, behind those of the blocks that called it.
type state []int

// cloud is a list of states with their masses.
type cloud map[string]*particle

type particle struct {
	state
	mass *big.Rat
}

func (x cloud) add(s state, mass *big.Rat) {
	key := fmt.Sprint(s)
	if x[key] == nil {
		x[key] = &particle{slices.Clone(s), new(big.Rat)}
	}
	x[key].mass.Add(x[key].mass, mass)
}

// machine executes modules, also such as are not straight. Their draws are from tables, and they have no parameters.
type machine struct {
	m             api.Module
	k             int
	cells         []api.Cell // of the block
	depth         int
	rejected, cut *big.Rat
}

// measure returns the masses of the results, of the rejected runs and of those that were cut.
func measure(m api.Module, k int) map[string]*big.Rat {
	x := machine{m: m, k: k, cells: m.Cells, rejected: new(big.Rat), cut: new(big.Rat)}
	start := cloud{}
	start.add(each(m.Cells, func(c api.Cell) int { return core.Clamp(c, 0) }), big.NewRat(1, 1))
	masses := map[string]*big.Rat{"rejected": x.rejected, "cut": x.cut}
	for _, p := range x.run(m.Body, start) {
		key := fmt.Sprint(each(m.Outs, func(i int) int { return p.state[i] }))
		if masses[key] == nil {
			masses[key] = new(big.Rat)
		}
		masses[key].Add(masses[key], p.mass)
	}
	return masses
}

// own returns the part of a state that belongs to the block.
func (x machine) own(s state) state { return s[len(s)-len(x.cells):] }

func (x machine) value(f api.Form, s state) int {
	n, e := core.Eval(f, x.own(s))
	if e != api.OK {
		panic(fmt.Sprint("the error of Eval is ", e))
	}
	return n
}

// with returns a state in which the variables of the block have these values.
func (x machine) with(s state, outs, values []int) state {
	s = slices.Clone(s)
	for i, out := range outs {
		x.own(s)[out] = core.Clamp(x.cells[out], values[i])
	}
	return s
}

// run returns the states behind a list of commands.
func (x machine) run(l []api.Cmd, before cloud) cloud {
	for _, c := range l {
		after := cloud{}
		switch c.Kind {
		case api.CmdWhile:
			after = x.loop(c, before)
		case api.CmdIf:
			yes, no := x.split(c.Form, before)
			after = x.run(c.Then, yes)
			for _, p := range x.run(c.Else, no) {
				after.add(p.state, p.mass)
			}
		case api.CmdObserve:
			var no cloud
			after, no = x.split(c.Form, before)
			no.end(x.rejected)
		case api.CmdCut:
			before.end(x.cut)
		default:
			for _, p := range before {
				x.step(c, p, after)
			}
		}
		before = after
	}
	return before
}

// end adds the mass of all states.
func (x cloud) end(sum *big.Rat) {
	for _, p := range x {
		sum.Add(sum, p.mass)
	}
}

// split returns the states in which a form is not 0, and the others.
func (x machine) split(f api.Form, all cloud) (yes, no cloud) {
	yes, no = cloud{}, cloud{}
	for key, p := range all {
		if x.value(f, p.state) != 0 {
			yes[key] = p
		} else {
			no[key] = p
		}
	}
	return yes, no
}

func (x machine) loop(c api.Cmd, before cloud) cloud {
	after := cloud{}
	for i := 0; ; i++ {
		yes, no := x.split(c.Form, before)
		for _, p := range no {
			after.add(p.state, p.mass)
		}
		if i == x.k {
			yes.end(x.cut)
			return after
		}
		before = x.run(c.Then, yes)
	}
}

// step executes an assignment, a draw or a call in one state.
func (x machine) step(c api.Cmd, p *particle, after cloud) {
	eval := func(f api.Form) int { return x.value(f, p.state) }
	switch c.Kind {
	case api.CmdSet:
		after.add(x.with(p.state, c.Outs, each(c.Args, eval)), p.mass)
	case api.CmdDraw:
		for i, w := range c.Dist.Weights {
			r, _ := polynomial.Eval(w, nil)
			if mass := new(big.Rat).SetFrac(bigOf(r.Num), bigOf(r.Den)); mass.Sign() != 0 {
				after.add(x.with(p.state, []int{c.Var}, []int{c.Dist.Low + i}), mass.Mul(mass, p.mass))
			}
		}
	case api.CmdCall:
		if x.depth == x.k {
			x.cut.Add(x.cut, p.mass)
			return
		}
		callee := x.m.Procs[c.Var]
		y := x
		y.cells, y.depth = callee.Cells, x.depth+1
		inner := slices.Concat(p.state, make(state, len(callee.Cells)))
		args := append(each(c.Args, eval), make([]int, len(callee.Cells)-len(c.Args))...)
		inner = y.with(inner, indices(len(args)), args)
		start := cloud{}
		start.add(inner, p.mass)
		for _, q := range y.run(callee.Body, start) {
			results := each(callee.Outs, func(i int) int { return y.own(q.state)[i] })
			after.add(x.with(q.state[:len(p.state)], c.Outs, results), q.mass)
		}
	}
}

func indices(n int) []int {
	var l []int
	for i := range n {
		l = append(l, i)
	}
	return l
}

func bigOf(limbs []uint32) *big.Int {
	n := new(big.Int)
	for _, limb := range slices.Backward(limbs) {
		n.Add(n.Lsh(n, 32), big.NewInt(int64(limb)))
	}
	return n
}

// checkMeaning checks that an unfolding has the measure of the module, and returns the measure, or nothing if there is no unfolding.
func checkMeaning(t *testing.T, m api.Module, k int) map[string]*big.Rat {
	t.Helper()
	n, e := unfold.Unfold(m, k)
	if e == api.ErrLimit && errorOf(m, k) == e {
		return nil
	}
	if e != api.OK || !core.Straight(n) {
		t.Errorf("the error of Unfold(%+v, %d) is %d, or the unfolding is not straight", m, k, e)
		return nil
	}
	got, want := measure(n, 0), measure(m, k)
	if fmt.Sprint(got) != fmt.Sprint(want) {
		t.Errorf("the measure of Unfold(%+v, %d) is %v, not %v", m, k, got, want)
	}
	return got
}

// checkOrder checks that no mass decreases from a measure to that of a deeper unfolding, but the cut mass, which does not increase.
func checkOrder(t *testing.T, m api.Module, before, after map[string]*big.Rat) {
	t.Helper()
	sum := new(big.Rat)
	for key, mass := range after {
		sum.Add(sum, mass)
		if old := before[key]; old != nil && (mass.Cmp(old) < 0) != (key == "cut") && mass.Cmp(old) != 0 {
			t.Errorf("the mass of %s in %+v is %v, and %v in a deeper unfolding", key, m, old, mass)
		}
	}
	for key := range before {
		if after[key] == nil {
			t.Errorf("%s has no mass in a deeper unfolding of %+v", key, m)
		}
	}
	if sum.Cmp(big.NewRat(1, 1)) != 0 {
		t.Errorf("the masses of %+v are %v together", m, sum)
	}
}

// checkAll checks the measures of all unfoldings that are within the limits, and returns that of the deepest one.
func checkAll(t *testing.T, m api.Module, deepest int) map[string]*big.Rat {
	t.Helper()
	var before map[string]*big.Rat
	for k := range deepest + 1 {
		after := checkMeaning(t, m, k)
		if after == nil {
			break
		}
		checkOrder(t, m, before, after)
		before = after
	}
	return before
}

func TestMeaningOfRandomModules(t *testing.T) {
	m := newMaker(161)
	cuts, changes := 0, 0
	for range 1200 {
		k := m.anyKind()
		k.finite, k.nested = true, false
		x := m.module(k)
		first, last := checkAll(t, x, 0), checkAll(t, x, 5)
		if last["cut"].Sign() != 0 {
			cuts++
		}
		if fmt.Sprint(first) != fmt.Sprint(last) {
			changes++
		}
		if t.Failed() {
			return
		}
	}
	if min(cuts, changes) < 200 {
		t.Errorf("%d modules are cut, and %d measures change", cuts, changes)
	}
}

// At a point at which no weight is negative the masses of a module with parameters have the same order, and it makes no difference whether the point is put in before or afterwards.
func TestMeaningAtPoints(t *testing.T) {
	m := newMaker(163)
	done := 0
	for range 1500 {
		x := m.module(kind{loops: true, recursion: m.often(2)})
		if x.Params == 0 || slices.Contains(x.Cells, real) || hasDraw(x, api.DistGeometric) {
			continue
		}
		point := many(m, x.Params, x.Params, func() api.Rat { return ratio(m.IntN(4), 3) })
		at, e := core.At(x, point)
		if e != api.OK {
			continue
		}
		done++
		checkAll(t, at, 4)
		for k := range 4 {
			n, e := unfold.Unfold(x, k)
			if e != api.OK {
				continue
			}
			n, e = core.At(n, point)
			want, _ := unfold.Unfold(at, k)
			if e != api.OK || !core.Equal(n, want) {
				t.Errorf("the unfolding of %+v for %d at %v is %+v with the error %d, not %+v", x, k, point, n, e, want)
			}
		}
		if t.Failed() {
			return
		}
	}
	if done < 200 {
		t.Errorf("%d modules have a point", done)
	}
}

// Programs, with the measures of an unfolding.
func TestMeaning(t *testing.T) {
	for _, c := range []struct {
		program string
		k       int
		want    string
	}{
		{"var b: bool; while !b { b ~ flip(1/2); } return b;", 3, "map[[1]:7/8 cut:1/8 rejected:0/1]"},                                                                                            // example 6 of the document
		{"func f(k: int[0, 3]) { var r: bool; r ~ flip(1/2); if 0 < k { if r { r := f(k - 1); } } return r; } var b: bool; b := f(2); return b;", 3, "map[[0]:7/8 [1]:1/8 cut:0/1 rejected:0/1]"}, // example 7
		{"func f(k: int[0, 3]) { var r: bool; r ~ flip(1/2); if 0 < k { if r { r := f(k - 1); } } return r; } var b: bool; b := f(2); return b;", 2, "map[[0]:3/4 cut:1/4 rejected:0/1]"},
		{"func f(k: int[0, 9]) { var r: int[0, 99]; r := 1; if 1 < k { r := f(k - 1); r := r * k; } return r; } var n: int[0, 99]; n := f(4); return n;", 4, "map[[24]:1/1 cut:0/1 rejected:0/1]"},
		{"func f(k: int[0, 9]) { var r: int[0, 99]; var s: int[0, 99]; r := k; if 1 < k { r := f(k - 1); s := f(k - 2); r := r + s; } return r; } var n: int[0, 99]; n := f(7); return n;", 7, "map[[13]:1/1 cut:0/1 rejected:0/1]"},
		{"func f() { var n: int[0, 9]; n := n + 1; return n; } var m: int[0, 9]; var n: int[0, 9]; m := f(); n := f(); n := m + n; return n;", 1, "map[[2]:1/1 cut:0/1 rejected:0/1]"},
		{"func f() { var n: int[4, 9]; n := n + 1; return n; } var n: int[4, 9]; n := f(); n := f(); return n;", 1, "map[[5]:1/1 cut:0/1 rejected:0/1]"},
		{"func f(a: bool) { var t: (bool, bool); t := (a, !a); return t; } var t: (bool, bool); t := f(true); return t;", 1, "map[[1 0]:1/1 cut:0/1 rejected:0/1]"},
		{"var n: int[0, 9]; var b: bool; while n < 3 { n := n + 1; b ~ flip(1/3); observe !b; } return n;", 3, "map[[3]:8/27 cut:0/1 rejected:19/27]"},
		{"var n: int[0, 9]; var b: bool; while n < 3 { n := n + 1; b ~ flip(1/3); observe !b; } return n;", 2, "map[cut:4/9 rejected:5/9]"},
	} {
		m := lowered(t, c.program)
		check(t, m, c.k)
		checkAll(t, m, c.k)
		if got := fmt.Sprint(checkMeaning(t, m, c.k)); strings.ReplaceAll(got, "  ", " ") != c.want {
			t.Errorf("the measure of %s for k = %d is %s, not %s", c.program, c.k, got, c.want)
		}
	}
}
