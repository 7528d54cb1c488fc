package core_test

import (
	"math/big"
	"slices"
	"testing"

	"exactppl/api"
	"exactppl/core"
)

// P13.3: the values of forms

const limit = api.MaxArith

func TestClamp(t *testing.T) {
	cells := []api.Cell{truth, {Kind: api.TypeBool}, {Kind: api.TypeBool, Low: 3, High: 5}, small, natural, real, {}, {Kind: api.TypeTuple, Low: 1, High: 2}, {Kind: api.TypeList, Low: 1, High: 2}, {Kind: -1, Low: 1, High: 2}, {Kind: api.TypeNat, Low: 5, High: 6}, {Kind: api.TypeReal, Low: 5, High: 6}}
	for low := -3; low <= 3; low++ {
		for high := low; high <= 3; high++ {
			cells = append(cells, api.Cell{Kind: api.TypeInt, Low: low, High: high})
		}
	}
	cells = append(cells, api.Cell{Kind: api.TypeInt, Low: -1000, High: 1000}, api.Cell{Kind: api.TypeInt, Low: -1000, High: -999}, api.Cell{Kind: api.TypeInt, Low: 1000, High: 1000})
	for _, c := range cells {
		for _, n := range []int{-1 << 63, -limit - 1, -1001, -1000, -999, -4, -3, -2, -1, 0, 1, 2, 3, 4, 999, 1000, 1001, limit, limit + 1, 1<<63 - 1} {
			if got := core.Clamp(c, n); got != clamped(c, n) {
				t.Errorf("Clamp(%v, %d) is %d, not %d", c, n, got, clamped(c, n))
			}
		}
	}
}

// clamped looks for the nearest number.
func clamped(c api.Cell, n int) int {
	switch {
	case c.Kind == api.TypeBool && n == 0:
		return 0
	case c.Kind == api.TypeBool:
		return 1
	case c.Kind == api.TypeNat && n < 0:
		return 0
	case c.Kind != api.TypeInt:
		return n
	}
	distance := func(x int) *big.Int {
		d := new(big.Int).Sub(big.NewInt(int64(x)), big.NewInt(int64(n)))
		return d.Abs(d)
	}
	nearest := c.Low
	for x := c.Low; x <= c.High; x++ {
		if distance(x).Cmp(distance(nearest)) < 0 {
			nearest = x
		}
	}
	return nearest
}

// valueOf returns the value of a form by the definition.
func valueOf(f api.Form, state []int) *big.Int {
	if f.Op == api.FoInt {
		return near(big.NewInt(int64(f.Int)))
	}
	if f.Op == api.FoVar {
		return near(big.NewInt(int64(state[f.Int])))
	}
	args := each(f.Args, func(arg api.Form) *big.Int { return valueOf(arg, state) })
	truths := each(args, func(n *big.Int) bool { return n.Sign() != 0 })
	holds := false
	switch f.Op {
	case api.FoAdd:
		return near(new(big.Int).Add(args[0], args[1]))
	case api.FoSub:
		return near(new(big.Int).Sub(args[0], args[1]))
	case api.FoMul:
		return near(new(big.Int).Mul(args[0], args[1]))
	case api.FoCond:
		if truths[0] {
			return args[1]
		}
		return args[2]
	case api.FoNot:
		holds = !truths[0]
	case api.FoAnd:
		holds = truths[0] && truths[1]
	case api.FoOr:
		holds = truths[0] || truths[1]
	case api.FoEq:
		holds = args[0].Cmp(args[1]) == 0
	case api.FoLt:
		holds = args[0].Cmp(args[1]) < 0
	case api.FoLe:
		holds = args[0].Cmp(args[1]) <= 0
	}
	if holds {
		return big.NewInt(1)
	}
	return new(big.Int)
}

// near returns the number that replaces n.
func near(n *big.Int) *big.Int {
	most := big.NewInt(1 << 30)
	switch least := new(big.Int).Neg(most); {
	case n.Cmp(most) > 0:
		return most
	case n.Cmp(least) < 0:
		return least
	}
	return n
}

// evalErrors returns all errors of Eval, in the order of the document.
func evalErrors(f api.Form, variables int) []api.Errno {
	arguments := map[int]int{1: 0, 2: 0, 3: 0, 4: 1, 5: 2, 6: 2, 7: 2, 8: 2, 9: 2, 10: 2, 11: 2, 12: 2, 13: 3}
	found := map[api.Errno]bool{}
	var visit func(f api.Form, depth int)
	visit = func(f api.Form, depth int) {
		n, exists := arguments[f.Op]
		found[api.ErrLimit] = found[api.ErrLimit] || depth > 200
		found[api.ErrForm] = found[api.ErrForm] || !exists || len(f.Args) != n
		found[api.ErrClass] = found[api.ErrClass] || f.Op == api.FoRat
		found[api.ErrRange] = found[api.ErrRange] || f.Op == api.FoVar && (f.Int < 0 || f.Int >= variables)
		for _, arg := range f.Args {
			visit(arg, depth+1)
		}
	}
	visit(f, 1)
	return slices.DeleteFunc([]api.Errno{api.ErrLimit, api.ErrForm, api.ErrClass, api.ErrRange}, func(e api.Errno) bool { return !found[e] })
}

// checkEval checks the value and the error of a form.
func checkEval(t *testing.T, f api.Form, state []int) api.Errno {
	t.Helper()
	value, want := 0, api.OK
	if l := evalErrors(f, len(state)); len(l) > 0 {
		want = l[0]
	} else {
		value = int(valueOf(f, state).Int64())
	}
	if got, e := core.Eval(f, state); got != value || e != want {
		t.Errorf("Eval(%+v, %v) is %d with the error %d, not %d with %d", f, state, got, e, value, want)
	}
	return want
}

// Each operator with the numbers at which something changes.
func TestOperators(t *testing.T) {
	numbers := []int{0, 1, -1, 2, -2, 7, 1 << 15, 32767, -32769, limit - 1, limit, limit + 1, -limit + 1, -limit, -limit - 1, 1<<63 - 1, -1 << 63}
	for _, a := range numbers {
		for _, f := range []api.Form{num(a), variable(0), node(api.FoNot, variable(0))} {
			checkEval(t, f, []int{a})
		}
		for _, b := range numbers {
			for op := api.FoAnd; op <= api.FoMul; op++ {
				checkEval(t, node(op, variable(0), num(b)), []int{a})
			}
			checkEval(t, node(api.FoCond, variable(0), num(a), variable(1)), []int{a, b})
			checkEval(t, node(api.FoCond, variable(1), num(a), variable(0)), []int{a, b})
		}
	}
}

// Random forms, some of them with something wrong in them.
func TestRandomForms(t *testing.T) {
	m := newMaker(139)
	met := map[api.Errno]int{}
	for range 30000 {
		m.cells = make([]api.Cell, 3)
		f := copyOf(m.plain(pick(m, 2, 4, 6)))
		for range pick(m, 0, 0, 1, 2, 3) {
			m.spoil(&f)
		}
		state := many(m, 0, 3, func() int { return pick(m, 0, 1, -1, 5, limit, -limit, 1<<40, -1<<63) })
		for range 3 - len(state) {
			if m.often(2) {
				state = append(state, 0)
			}
		}
		met[checkEval(t, f, state)]++
	}
	for _, e := range []api.Errno{api.OK, api.ErrLimit, api.ErrForm, api.ErrClass, api.ErrRange} {
		if met[e] < 500 {
			t.Errorf("the error %d occurs %d times", e, met[e])
		}
	}
}

// spoil changes a part of a form.
func (m *maker) spoil(f *api.Form) {
	for len(f.Args) > 0 && !m.often(3) {
		f = &f.Args[m.IntN(len(f.Args))]
	}
	inner := *f
	switch m.IntN(7) {
	case 0:
		f.Op = pick(m, 0, 14, -1, 1<<62, api.FoInt, api.FoAnd, api.FoCond)
	case 1:
		f.Args = f.Args[:max(0, len(f.Args)-1)]
	case 2:
		f.Args = append(slices.Clone(f.Args), num(1))
	case 3:
		*f = api.Form{Op: api.FoRat, Rat: m.rat(0, 1)}
	case 4:
		*f = variable(pick(m, 3, -1, 1<<62, -1<<63))
	case 5:
		f.Int, f.Rat = 7, ratio(1, 2)
	default:
		for range pick(m, 2, 190, 200, 205) {
			inner = node(api.FoNot, inner)
		}
		*f = inner
	}
}

// The errors concern the whole form, in their order and not in that of the places.
func TestEvalErrors(t *testing.T) {
	faulty := []api.Form{deep(maxLevels), node(99), fraction(1, 2), variable(2)}
	errors := []api.Errno{api.ErrLimit, api.ErrForm, api.ErrClass, api.ErrRange}
	state := []int{1, 0}
	for i, f := range faulty {
		for j, g := range faulty {
			for _, h := range []api.Form{node(api.FoAnd, f, g), node(api.FoCond, num(1), node(api.FoMul, num(0), f), g), node(api.FoCond, num(0), f, node(api.FoOr, num(1), g)), node(99, f, g), {Op: api.FoInt, Args: []api.Form{f, g}}, {Op: api.FoVar, Int: 9, Args: []api.Form{f, g}}} {
				e := checkEval(t, h, state)
				if h.Op != 99 && len(h.Args) != 0 && h.Op > api.FoVar && e != errors[min(i, j)] {
					t.Errorf("the error of %+v is %d", h, e)
				}
			}
		}
	}
	for _, c := range []struct {
		f    api.Form
		want api.Errno
	}{
		{deep(maxLevels), api.OK}, {deep(maxLevels + 1), api.ErrLimit}, {deep(70000), api.ErrLimit}, {api.Form{}, api.ErrForm}, {node(14, num(1), num(1)), api.ErrForm}, {node(-1), api.ErrForm}, {node(api.FoNot), api.ErrForm}, {node(api.FoNot, num(1), num(1)), api.ErrForm}, {node(api.FoCond, num(1), num(1)), api.ErrForm},
		{api.Form{Op: api.FoRat, Args: []api.Form{num(1)}}, api.ErrForm}, {api.Form{Op: api.FoRat}, api.ErrClass}, {node(api.FoCond, num(1), num(1), fraction(1, 2)), api.ErrClass}, {variable(1), api.OK}, {variable(2), api.ErrRange}, {variable(-1), api.ErrRange}, {node(api.FoAnd, num(0), variable(2)), api.ErrRange},
		{api.Form{Op: api.FoInt, Int: 1, Rat: ratio(1, 2)}, api.OK}, {api.Form{Op: api.FoNot, Int: 1, Args: []api.Form{num(1)}}, api.OK},
	} {
		if e := checkEval(t, c.f, state); e != c.want {
			t.Errorf("%+v is tested with the error %d, not %d", c.f, e, c.want)
		}
	}
	if _, e := core.Eval(variable(0), nil); e != api.ErrRange {
		t.Errorf("the error without a state is %d", e)
	}
}
