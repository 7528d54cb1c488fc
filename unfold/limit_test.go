package unfold_test

import (
	"fmt"
	"slices"
	"testing"
	"time"

	"exactppl/api"
	"exactppl/core"
	"exactppl/polynomial"
	"exactppl/unfold"
)

// P14.1: the limits

// checkLimit checks Unfold by the definition, and that its error is ErrLimit or that there is none.
func checkLimit(t *testing.T, what string, m api.Module, k int, within bool) {
	t.Helper()
	if e := core.Validate(m); e != api.OK {
		t.Fatalf("%s: the error of Validate is %d", what, e)
	}
	want := api.ErrLimit
	if within {
		want = api.OK
	}
	n, e := unfold.Unfold(m, k)
	if e != want || errorOf(m, k) != want {
		t.Errorf("%s: for k = %d the error is %d, and %d by the definition, not %d", what, k, e, errorOf(m, k), want)
	}
	if e == api.OK && !core.Straight(n) || e != api.OK && !same(n, api.Module{}) {
		t.Errorf("%s: for k = %d the unfolding is wrong", what, k)
	}
}

// sized returns a form of the size n with a depth of at most 31.
func sized(n int) api.Form {
	switch {
	case n == 1:
		return num(1)
	case n%2 == 0:
		return not(sized(n - 1))
	}
	return node(api.FoAdd, sized(1+(n-3)/2), sized(n-2-(n-3)/2))
}

// units are commands of all kinds with procedures that they call. They have draws only if they say so, and forms of more than one operator.
func units(inner ...api.Cmd) map[string]api.Module {
	f := sized(5)
	one, two := []api.Cell{truth}, []api.Cell{truth, small}
	return map[string]api.Module{
		"commands":                       module(nil, inner...),
		"then":                           module(nil, branch(f, inner, nil)),
		"else":                           module(nil, branch(f, nil, inner)),
		"a loop":                         module(nil, loop(f, inner...)),
		"a loop in a loop":               module(nil, loop(f, loop(f, inner...), set(0, f))),
		"a call with other cells":        module([]api.Proc{procedure(two, 0, inner...)}, call(0, []int{0})),
		"a call with arguments":          module([]api.Proc{procedure(two, 2, inner...)}, call(0, []int{0}, f, num(3))),
		"a call with both":               module([]api.Proc{procedure(two, 1, inner...)}, call(0, []int{0}, f)),
		"a call with two results":        module([]api.Proc{{Cells: two, Args: 1, Outs: []int{1, 1}, Body: inner}}, call(0, []int{0, 1}, f)),
		"a call in a call":               module([]api.Proc{procedure(one, 1, call(1, []int{0}, f, f)), procedure(two, 2, inner...)}, call(0, []int{0}, f)),
		"a procedure calls itself":       module([]api.Proc{procedure(two, 1, append(inner[:len(inner):len(inner)], call(0, []int{0}, f))...)}, call(0, []int{0}, f)),
		"a procedure calls itself twice": module([]api.Proc{procedure(two, 0, append(inner[:len(inner):len(inner)], branch(f, calls(0), calls(0)))...)}, call(0, []int{0})),
		"a loop in a procedure":          module([]api.Proc{procedure(two, 0, loop(f, inner...))}, call(0, []int{0})),
		"a call in a loop":               module([]api.Proc{procedure(two, 0, inner...)}, loop(f, call(0, []int{0}))),
	}
}

// extentOf returns the extent of an unfolding.
func extentOf(m api.Module, k int) extent {
	x, _ := reference{m, k}.extent()
	return x
}

// atLimit checks modules with one or two of the units, and before or behind them something that fills the rest, for which the filler is called with its size. Then one more is too much.
func atLimit(t *testing.T, limit int, part func(extent) int, inner []api.Cmd, filler func(n int) []api.Cmd) {
	t.Helper()
	for what, unit := range units(inner...) {
		for _, k := range []int{0, 1, 12} {
			takes := part(extentOf(unit, k))
			if takes > limit {
				checkLimit(t, what, unit, k, false)
				continue
			}
			m := unit
			if 2*takes <= limit {
				m.Body = slices.Concat(unit.Body, unit.Body)
				takes *= 2
			}
			for _, rest := range []int{limit - takes, limit - takes + 1} {
				full := m
				if full.Body = slices.Concat(m.Body, filler(rest)); k == 1 {
					full.Body = slices.Concat(filler(rest), m.Body)
				}
				if core.Validate(full) == api.OK { // otherwise it is larger than its unfolding
					checkLimit(t, fmt.Sprint(rest, " more and ", what), full, k, takes+rest == limit)
				}
			}
		}
	}
}

func TestNumberOfCommands(t *testing.T) {
	filler := func(n int) []api.Cmd { return slices.Repeat([]api.Cmd{set(0, num(1))}, n) }
	atLimit(t, 2000, func(x extent) int { return x.commands }, []api.Cmd{set(0, num(1)), observe(sized(2)), cut, branch(num(1), []api.Cmd{cut}, []api.Cmd{cut})}, filler)
	atLimit(t, 2000, func(x extent) int { return x.commands }, []api.Cmd{cut}, filler)
}

func TestNumberOfSites(t *testing.T) {
	filler := func(n int) []api.Cmd {
		l := slices.Repeat([]api.Cmd{flip(0)}, n/2)
		return append(l, branch(num(1), l[:n/4], append(l[n/4:len(l):len(l)], slices.Repeat([]api.Cmd{flip(1)}, n-2*(n/2))...)))
	}
	atLimit(t, 64, func(x extent) int { return x.draws }, []api.Cmd{flip(0)}, filler)
	atLimit(t, 64, func(x extent) int { return x.draws }, []api.Cmd{draw(1, fair(3)), branch(num(1), []api.Cmd{flip(0)}, []api.Cmd{flip(0)})}, filler)
	// Draws in places that are cut do not count.
	m := module([]api.Proc{procedure([]api.Cell{truth}, 0, slices.Repeat([]api.Cmd{flip(0)}, 65)...)}, loop(num(1), slices.Repeat([]api.Cmd{flip(0)}, 65)...), call(0, []int{0}))
	checkLimit(t, "65 draws", m, 0, true)
	checkLimit(t, "65 draws", m, 1, false)
}

func TestSizesOfForms(t *testing.T) {
	large := set(0, sized(20000))
	filler := func(n int) []api.Cmd {
		var l []api.Cmd
		for ; n > 20000; n -= 20000 {
			l = append(l, large)
		}
		if n > 0 {
			l = append(l, observe(sized(n)))
		}
		return l
	}
	forms := func(x extent) int { return x.forms }
	atLimit(t, 200000, forms, []api.Cmd{observe(sized(20)), setAll([]int{0, 1}, sized(30), num(1)), branch(sized(6), nil, nil), cut}, filler)
	atLimit(t, 200000, forms, []api.Cmd{set(1, sized(16000))}, filler)
	m := module(nil, loop(sized(15384), flip(0))) // 13 * 15384 = 199992
	m.Body = append(m.Body, observe(sized(8)))
	checkLimit(t, "a loop", m, 12, true)
	m.Body[1] = observe(sized(9))
	checkLimit(t, "a loop", m, 12, false)
}

func TestNumberOfCells(t *testing.T) {
	cells := func(n int) []api.Cell { return slices.Repeat([]api.Cell{truth}, n) }
	for _, more := range []int{0, 1} {
		within := more == 0
		m := module([]api.Proc{procedure(cells(198), 0), procedure(cells(200+more), 3)}, call(0, []int{0}), call(1, []int{0}, num(1), num(2), num(3)), call(0, []int{0}))
		checkLimit(t, "two frames", m, 1, within)
		checkLimit(t, "two frames", m, 12, within)
		checkLimit(t, "no frames", m, 0, true)
		m = module([]api.Proc{procedure(cells(39+more), 0, call(0, []int{0})), procedure(cells(8), 1)}, call(0, []int{0}), call(1, []int{0}, num(1)))
		checkLimit(t, "ten frames", m, 10, within) // 2 + 10 * 39 + 8 cells
		checkLimit(t, "nine frames", m, 9, true)
		checkLimit(t, "eleven frames", m, 11, false)
		m = module([]api.Proc{procedure(cells(200), 0, branch(num(1), []api.Cmd{call(1, []int{0})}, []api.Cmd{call(1, []int{1})})), procedure(cells(198+more), 0)}, loop(num(1), call(0, []int{0}), call(0, []int{1})))
		checkLimit(t, "a frame at each depth", m, 5, within)
		m = module([]api.Proc{procedure(cells(398), 0), procedure(cells(200), 0)}, call(0, []int{0}))
		if more > 0 {
			m.Body = append(m.Body, loop(num(0), call(1, []int{0})))
		}
		checkLimit(t, "the frame of a procedure that is not called", m, 1, within)
		m = module([]api.Proc{procedure(cells(398), 0), procedure([]api.Cell{truth}, 0)}, call(0, []int{0}), call(0, []int{0}), call(1, []int{0}))
		checkLimit(t, "401 cells", m, 3, false)
	}
	most := module(nil)
	most.Cells = append(most.Cells, cells(398)...)
	most.Procs = []api.Proc{procedure([]api.Cell{truth}, 0)}
	checkLimit(t, "no room for a frame", most, 12, true)
	most.Body = calls(0)
	checkLimit(t, "no room for a frame that is not needed", most, 0, true)
	checkLimit(t, "no room for a frame", most, 1, false)
}

// nest puts commands n times into another one.
func nest(n int, into func(l []api.Cmd) api.Cmd, l ...api.Cmd) []api.Cmd {
	for range n {
		l = []api.Cmd{into(l)}
	}
	return l
}

func TestDepthOfLists(t *testing.T) {
	then := func(l []api.Cmd) api.Cmd { return branch(num(1), l, nil) }
	other := func(l []api.Cmd) api.Cmd { return branch(num(1), nil, l) }
	while := func(l []api.Cmd) api.Cmd { return loop(num(1), l...) }
	deepProcedure := func(n int) []api.Proc {
		return []api.Proc{procedure([]api.Cell{truth}, 0, nest(n-1, other, flip(0))...)}
	}
	for what, l := range map[string]func(n int) (api.Module, int){
		"then":                    func(n int) (api.Module, int) { return module(nil, nest(n-1, then, cut)...), 3 },
		"else":                    func(n int) (api.Module, int) { return module(nil, nest(n-1, other, cut)...), 0 },
		"loops that are cut":      func(n int) (api.Module, int) { return module(nil, nest(n-2, then, loop(num(1)))...), 0 },
		"a loop":                  func(n int) (api.Module, int) { return module(nil, nest(n-14, then, loop(num(1), flip(0)))...), 12 },
		"a loop with a deep body": func(n int) (api.Module, int) { return module(nil, loop(num(1), nest(n-6, other, flip(0))...)), 5 },
		"loops in loops":          func(n int) (api.Module, int) { return module(nil, nest(n-2, while, flip(0))...), 1 },
		"a call": func(n int) (api.Module, int) {
			return module(deepProcedure(100), nest(n-100, other, calls(0)...)...), 1
		},
		"a call that is cut": func(n int) (api.Module, int) { return module(deepProcedure(100), nest(n-1, then, calls(0)...)...), 0 },
		"a call of a procedure that is less deep": func(n int) (api.Module, int) {
			return module(deepProcedure(100), append(nest(n-1, then, flip(0)), calls(0)...)...), 1
		},
		"a procedure that calls itself": func(n int) (api.Module, int) {
			p := procedure([]api.Cell{truth}, 0, nest((n-1)/8, other, calls(0)...)...)
			return module([]api.Proc{p}, nest((n-1)%8, then, calls(0)...)...), 8
		},
	} {
		m, k := l(200)
		if x := extentOf(m, k); x.depth != 200 {
			t.Errorf("%s has the depth %d", what, x.depth)
		}
		checkLimit(t, what, m, k, true)
		if m, k = l(201); core.Validate(m) == api.OK {
			checkLimit(t, what+", one level more", m, k, false)
		}
	}
}

// longWeights returns weights with 17^3 terms.
func longWeights() []api.Poly {
	var long api.Poly
	for i := range 17 * 17 * 17 {
		long = append(long, api.Term{Mono: api.Mono{i / (17 * 17), i / 17 % 17, i % 17}, Coef: ratio(1, 1+i)})
	}
	more, _ := polynomial.Add(long, constant(1, 16))
	less, _ := polynomial.Sub(constant(1, 16), long)
	return slices.Repeat([]api.Poly{more, less}, api.MaxOutcomes/2)
}

// Unfoldings that are very much too large take no long time, and no much memory.
func TestMuchTooLarge(t *testing.T) {
	start := time.Now()
	cells := slices.Repeat([]api.Cell{truth}, 33)
	loops := func(n int, l ...api.Cmd) []api.Cmd {
		return nest(n, func(l []api.Cmd) api.Cmd { return loop(num(1), l...) }, l...)
	}
	deepLoops := nest(199, func(l []api.Cmd) api.Cmd { return loop(sized(900), append([]api.Cmd{set(0, num(1))}, l...)...) })
	largeLoops := nest(9, func(l []api.Cmd) api.Cmd {
		return branch(sized(9000), []api.Cmd{loop(sized(11000), append(l, set(0, num(0)))...)}, nil)
	}, calls(0)...)
	twice := []api.Proc{procedure(cells, 0, append(calls(0, 0), loop(sized(5000), calls(0, 0)...))...)}
	var many []api.Proc
	for i := range api.MaxFuncs {
		many = append(many, procedure(cells, 0, slices.Repeat(calls((i+1)%api.MaxFuncs), 240)...))
	}
	wide := module(nil, loops(3, draw(1, table(0, longWeights()...)))...)
	wide.Params = 3
	assignment := module(nil, loops(3, setAll(indices(9), slices.Repeat([]api.Form{sized(20000)}, 9)...))...)
	assignment.Cells = cells
	for what, m := range map[string]api.Module{
		"loops in loops":          module(nil, deepLoops...),
		"two calls of itself":     module(twice, calls(0)...),
		"many calls":              module(many, calls(0)...),
		"draws with long weights": wide,
		"large assignments":       assignment,
		"large forms":             module([]api.Proc{procedure(cells, 3, call(0, []int{0}, sized(19000), sized(19000), sized(19000)), loop(sized(20000), call(0, []int{0}, sized(20000), sized(19000), sized(19000))))}, loop(num(1), call(0, []int{1}, num(1), num(2), sized(20000)))),
		"large forms of loops":    module([]api.Proc{procedure(cells, 0, largeLoops...)}, calls(0)...),
	} {
		for _, k := range []int{9, 12} {
			checkLimit(t, what, m, k, false)
		}
		if _, e := unfold.Unfold(m, 0); e != api.OK {
			t.Errorf("%s: for k = 0 the error is %d", what, e)
		}
	}
	if d := time.Since(start); d > 20*time.Second {
		t.Error("it takes", d)
	}
}
