package core_test

import (
	"math/big"
	"slices"
	"testing"

	"exactppl/api"
	"exactppl/core"
	"exactppl/polynomial"
	"exactppl/rational"
)

// P13.2 and P13.5: straight modules, their sites, and modules at a point

// normalPoly returns the normal form of a valid polynomial.
func normalPoly(p api.Poly) api.Poly {
	p, _ = polynomial.Norm(p)
	return p
}

// normalCmd returns a command of a valid module with fractions in normal form, its weights changed, and the site 0.
func normalCmd(c api.Cmd, weight func(api.Poly) api.Poly) api.Cmd {
	c.Site = 0
	c.Dist = normalDist(c.Dist, weight)
	c.Form = normalForm(c.Form)
	c.Args = each(c.Args, normalForm)
	c.Then = each(c.Then, func(c api.Cmd) api.Cmd { return normalCmd(c, weight) })
	c.Else = each(c.Else, func(c api.Cmd) api.Cmd { return normalCmd(c, weight) })
	return c
}

func normalDist(d api.Dist, weight func(api.Poly) api.Poly) api.Dist {
	if d.Kind == api.DistGeometric || d.Kind == api.DistInterval {
		d.From = rational.Norm(d.From)
	}
	if d.Kind == api.DistInterval {
		d.To = rational.Norm(d.To)
	}
	d.Weights = each(d.Weights, weight)
	return d
}

func normalForm(f api.Form) api.Form {
	if f.Op == api.FoRat {
		f.Rat = rational.Norm(f.Rat)
	}
	f.Args = each(f.Args, normalForm)
	return f
}

// normalModule returns a valid module with fractions in normal form, its weights changed, and all sites 0.
func normalModule(m api.Module, weight func(api.Poly) api.Poly) api.Module {
	m = copyOf(m)
	for _, body := range parts(&m) {
		*body = each(*body, func(c api.Cmd) api.Cmd { return normalCmd(c, weight) })
	}
	return m
}

// drawsOf returns the places of the draws of l in the order of the text.
func drawsOf(l []api.Cmd) []*api.Cmd {
	var all []*api.Cmd
	for i := range l {
		if l[i].Kind == api.CmdDraw {
			all = append(all, &l[i])
		}
		all = append(append(all, drawsOf(l[i].Then)...), drawsOf(l[i].Else)...)
	}
	return all
}

// isStraight is the definition, for a valid module.
func isStraight(m api.Module) bool {
	for _, c := range flat(m.Body) {
		if c.Kind == api.CmdWhile || c.Kind == api.CmdCall || c.Dist.Kind == api.DistNested {
			return false
		}
	}
	for i, c := range drawsOf(m.Body) {
		if c.Site != i || i >= 64 {
			return false
		}
	}
	return len(m.Procs) == 0 && len(m.Nested) == 0
}

// checkSites checks Straight, Class, Sites and Number of a valid module.
func checkSites(t *testing.T, m api.Module) {
	t.Helper()
	straight := isStraight(m)
	if got := core.Straight(m); got != straight {
		t.Errorf("Straight(%+v) is %v", m, got)
	}
	sites, e := core.Sites(m)
	switch want := each(drawsOf(m.Body), func(c *api.Cmd) api.Dist { return normalDist(c.Dist, normalPoly) }); {
	case straight && (e != api.OK || !same(sites, want)):
		t.Errorf("Sites(%+v) is %v with the error %d, not %v", m, sites, e, want)
	case !straight && (e != api.ErrClass || len(sites) > 0):
		t.Errorf("Sites(%+v) is %v with the error %d", m, sites, e)
	}
	want := normalModule(m, normalPoly)
	for i, c := range drawsOf(want.Body) {
		c.Site = i
	}
	code := api.OK
	if len(drawsOf(want.Body)) > 64 {
		want, code = api.Module{}, api.ErrLimit
	}
	if got, e := core.Number(m); e != code || !same(got, want) {
		t.Errorf("Number(%+v) is %+v with the error %d, not %+v with %d", m, got, e, want, code)
	}
	checkClass(t, m)
}

func checkClass(t *testing.T, m api.Module) {
	t.Helper()
	countable, continuous := slices.Contains(m.Cells, natural), slices.Contains(m.Cells, real)
	want, code := api.ClassFinite, api.OK
	switch {
	case countable && continuous:
		want, code = 0, api.ErrClass
	case countable:
		want = api.ClassCountable
	case continuous:
		want = api.ClassContinuous
	}
	if got, e := core.Class(m); got != want || e != code {
		t.Errorf("the class of %v is %d with the error %d, not %d with %d", m.Cells, got, e, want, code)
	}
}

func TestSitesOfRandomModules(t *testing.T) {
	m := newMaker(143)
	straight := 0
	for range 2500 {
		x := m.module(!m.often(3))
		checkSites(t, x)
		n, e := core.Number(x)
		if e != api.OK {
			continue
		}
		if isStraight(n) {
			straight++
		}
		checkSites(t, n)
		if l := drawsOf(n.Body); len(l) > 0 {
			pick(m, l...).Site = pick(m, 0, 1, -1, 2, 64)
			checkSites(t, n)
		}
	}
	if straight < 1000 {
		t.Errorf("%d modules are straight", straight)
	}
}

func TestStraight(t *testing.T) {
	flip := draw(1, fair(2))
	at := func(site int) api.Cmd {
		c := copyOf(flip)
		c.Site = site
		return c
	}
	cells := []api.Cell{truth, truth}
	for _, c := range []struct {
		m    api.Module
		want bool
	}{
		{module(cells), true}, {module(cells, at(0)), true}, {module(cells, at(1)), false}, {module(cells, at(-1)), false}, {module(cells, at(0), at(0)), false}, {module(cells, at(1), at(0)), false}, {module(cells, at(0), at(2)), false},
		{module(cells, at(0), branch(num(1), []api.Cmd{at(1), set(0, num(1)), at(2)}, []api.Cmd{at(3)}), at(4)), true}, {module(cells, branch(num(1), []api.Cmd{at(1)}, []api.Cmd{at(0)})), false}, {module(cells, branch(num(1), []api.Cmd{at(0)}, []api.Cmd{at(0)})), false},
		{module(cells, cut, observe(num(1)), at(0)), true}, {module(cells, loop(num(1))), false}, {module(cells, branch(num(1), nil, []api.Cmd{loop(num(0), cut)})), false}, {module(cells, at(1), loop(num(1))), false},
		{spoilt(func(m *api.Module) { m.Body = nil }), false}, {spoilt(func(m *api.Module) { m.Body, m.Nested, m.Procs = nil, nil, m.Procs[:1] }), false}, {spoilt(func(m *api.Module) { m.Body, m.Procs = nil, nil }), false}, {spoilt(func(m *api.Module) { m.Body, m.Procs, m.Nested = nil, nil, nil }), true},
		{api.Module{Cells: cells, Procs: []api.Proc{{Cells: cells, Outs: []int{0}}}, Outs: []int{0}, Type: boolean}, false}, {api.Module{Cells: cells, Procs: []api.Proc{{Cells: cells, Outs: []int{0}}}, Body: []api.Cmd{call(0, []int{1})}, Outs: []int{0}, Type: boolean}, false},
		{api.Module{Cells: cells, Nested: []api.Module{nested()}, Outs: []int{0}, Type: boolean}, false}, {api.Module{Cells: cells, Nested: []api.Module{nested()}, Body: []api.Cmd{draw(0, api.Dist{Kind: api.DistNested})}, Outs: []int{0}, Type: boolean}, false},
	} {
		if got := core.Straight(c.m); got != c.want {
			t.Errorf("Straight(%+v) is %v", c.m, got)
		}
		if core.Validate(c.m) == api.OK {
			checkSites(t, c.m)
		}
	}
	wrong := module(cells, at(0))
	wrong.Outs = nil
	checkModule(t, "a module that is not valid", wrong, api.ErrForm)
	// Sites of other commands are not examined.
	other := module(cells, cut, set(0, num(1)), observe(num(1)), branch(num(1), nil, nil), at(0))
	for i := range 4 {
		other.Body[i].Site = 5 + i
	}
	if !core.Straight(other) {
		t.Error("sites of other commands are examined")
	}
	checkSites(t, other)
}

// numbered returns n draws in several commands.
func numbered(n int) []api.Cmd {
	l := slices.Repeat([]api.Cmd{draw(0, fair(2))}, n-n/2)
	inner := slices.Repeat([]api.Cmd{draw(0, fair(2))}, n/2)
	return copyOf(append(l[:len(l)/2:len(l)/2], append([]api.Cmd{branch(num(1), inner[:n/3], inner[n/3:])}, l[len(l)/2:]...)...))
}

func TestMaxSites(t *testing.T) {
	for _, n := range []int{63, 64, 65, 66, 200} {
		m := module([]api.Cell{truth}, numbered(n)...)
		checkSites(t, m)
		for i, c := range drawsOf(m.Body) {
			c.Site = i
		}
		checkSites(t, m)
		if got := core.Straight(m); got != (n <= 64) {
			t.Errorf("with %d draws Straight is %v", n, got)
		}
		// Only the draws of Body count, also those in loops.
		full := empty()
		for _, body := range parts(&full)[1:] {
			*body = numbered(n)
		}
		checkSites(t, full)
		full.Body = []api.Cmd{loop(num(1), numbered(n)...)}
		checkSites(t, full)
		if _, e := core.Number(full); (e == api.ErrLimit) != (n > 64) {
			t.Errorf("with %d draws in a loop the error is %d", n, e)
		}
	}
}

// Draws, loops and sites on the deepest level.
func TestDeepSites(t *testing.T) {
	for _, c := range []api.Cmd{draw(0, fair(2)), loop(num(1)), observe(num(1)), branch(num(1), []api.Cmd{}, nil)} {
		for _, inElse := range []bool{false, true} {
			for _, site := range []int{0, 1, 5} {
				l := []api.Cmd{draw(0, fair(2))}
				c.Site = site
				inner := []api.Cmd{c, set(0, num(1))}
				for range maxLevels - 1 {
					inner = []api.Cmd{branch(num(1), inner, nil)}
					if inElse {
						inner[0].Then, inner[0].Else = nil, inner[0].Then
					}
				}
				m := module([]api.Cell{truth}, append(l, inner...)...)
				checkSites(t, m)
				other := empty()
				for _, body := range parts(&other) {
					if c.Kind != api.CmdWhile {
						*body = inner
					}
				}
				checkSites(t, other)
				checkAt(t, other, nil)
			}
		}
	}
}

func TestClass(t *testing.T) {
	for _, cells := range [][]api.Cell{{truth}, {truth, small}, {truth, natural}, {truth, real}, {truth, natural, real}, {truth, real, natural}, {truth, real, small, real}, {truth, natural, natural}} {
		checkClass(t, module(cells))
	}
	checkClass(t, rich())
	n := rich()
	n.Cells = slices.DeleteFunc(n.Cells, isInfinite)
	n.Body, n.Outs, n.Type = nil, []int{0}, boolean
	checkClass(t, n)
}

// bigRat returns the number that r denotes.
func bigRat(r api.Rat) *big.Rat {
	x, _ := new(big.Rat).SetString(rational.Format(r))
	return x
}

// valueAt returns the value of a polynomial.
func valueAt(p api.Poly, x []api.Rat) *big.Rat {
	sum := new(big.Rat)
	for _, t := range p {
		product := bigRat(t.Coef)
		for v, exp := range t.Mono {
			for range exp {
				if v >= len(x) {
					product.SetInt64(0)
					break
				}
				product.Mul(product, bigRat(x[v]))
			}
		}
		sum.Add(sum, product)
	}
	return sum
}

// checkAt checks At of a valid module.
func checkAt(t *testing.T, m api.Module, x []api.Rat) api.Errno {
	t.Helper()
	code := api.OK
	want := normalModule(m, func(w api.Poly) api.Poly {
		value := valueAt(normalPoly(w), x)
		if value.Sign() < 0 {
			code = api.ErrRange
		}
		r, _ := rational.Parse(value.RatString())
		return polynomial.Const(r)
	})
	for i, body := range parts(&want) {
		putSites(*body, *parts(&m)[i])
	}
	want.Params = 0
	if len(x) != m.Params {
		code = api.ErrRange
	}
	if code != api.OK {
		want = api.Module{}
	}
	got, e := core.At(m, x)
	if e != code || !same(got, want) {
		t.Errorf("At(%+v, %v) is %+v with the error %d, not %+v with %d", m, x, got, e, want, code)
	}
	if e == api.OK && core.Validate(got) != api.OK {
		t.Errorf("At(%+v, %v) is not valid", m, x)
	}
	return e
}

// putSites gives the commands of l the sites of those of other.
func putSites(l, other []api.Cmd) {
	for i := range l {
		l[i].Site = other[i].Site
		putSites(l[i].Then, other[i].Then)
		putSites(l[i].Else, other[i].Else)
	}
}

func TestAtOfRandomModules(t *testing.T) {
	m := newMaker(145)
	met := map[api.Errno]int{}
	for range 2500 {
		x := m.module(m.often(2))
		n := x.Params
		if m.often(10) {
			n = m.IntN(5)
		}
		met[checkAt(t, x, many(m, n, n, func() api.Rat { return pick(m, m.rat(0, 1), m.rat(0, 1), m.rat(-1, 2)) }))]++
	}
	if met[api.OK] < 500 || met[api.ErrRange] < 500 {
		t.Errorf("the errors are %v", met)
	}
}

func TestAt(t *testing.T) {
	p, square := monomial(ratio(1, 1), 1), monomial(ratio(2, 1), 1, 2)
	m := spoilt(func(m *api.Module) {
		m.Body = []api.Cmd{draw(0, table(0, p, rest(p))), branch(num(1), []api.Cmd{draw(1, table(3, square, rest(square)))}, []api.Cmd{loop(num(1), draw(1, table(0, nil, p, rest(p))))}), draw(2, api.Dist{Kind: api.DistGeometric, From: api.Rat{Num: []uint32{2}, Den: []uint32{4}}})}
	})
	none, one := api.Rat{}, ratio(1, 1)
	for _, c := range []struct {
		x    []api.Rat
		want api.Errno
	}{
		{nil, api.ErrRange}, {[]api.Rat{one}, api.ErrRange}, {[]api.Rat{one, one, one}, api.ErrRange}, {slices.Repeat([]api.Rat{one}, 9), api.ErrRange}, {[]api.Rat{one, none}, api.OK}, {[]api.Rat{none, one}, api.OK}, {[]api.Rat{ratio(1, 2), one}, api.OK}, {[]api.Rat{ratio(1, 2), ratio(5, 4)}, api.ErrRange},
		{[]api.Rat{ratio(-1, 1000), none}, api.ErrRange}, {[]api.Rat{ratio(1001, 1000), none}, api.ErrRange}, {[]api.Rat{ratio(1, 2), ratio(-1, 2)}, api.OK}, {[]api.Rat{{Num: []uint32{2}, Den: []uint32{6}}, {Neg: true, Num: []uint32{3, 0}, Den: []uint32{9}}}, api.OK}, {[]api.Rat{none, ratio(1000000, 1)}, api.OK},
	} {
		if e := checkAt(t, m, c.x); e != c.want {
			t.Errorf("at %v the error is %d, not %d", c.x, e, c.want)
		}
	}
	for i, body := range parts(&m)[:3] { // a weight that becomes negative in one place alone
		inPlace := spoilt(func(m *api.Module) {
			for _, other := range parts(m) {
				*other = nil
			}
			*parts(m)[i] = append(slices.Clone(*body)[:0], draw(0, table(0, rest(p), p)))
		})
		for _, c := range []struct {
			x    api.Rat
			want api.Errno
		}{{ratio(2, 1), api.ErrRange}, {ratio(-1, 2), api.ErrRange}, {ratio(1, 1), api.OK}} {
			if e := checkAt(t, inPlace, []api.Rat{c.x, one}); e != c.want {
				t.Errorf("in block %d at %v the error is %d", i, c.x, e)
			}
		}
	}
	plain := module([]api.Cell{truth}, draw(0, fair(2)))
	if e := checkAt(t, plain, nil); e != api.OK {
		t.Errorf("without parameters the error is %d", e)
	}
	if e := checkAt(t, plain, []api.Rat{none}); e != api.ErrRange {
		t.Errorf("with a number too many the error is %d", e)
	}
	for i := range 3 {
		wide := spoilt(func(m *api.Module) {
			w := monomial(ratio(1, 1), []int{1, 0, 0, 0, 1, 0, 0, 0, 1}[3*i:3*i+3]...)
			m.Params, m.Body = 3, []api.Cmd{draw(0, table(0, w, rest(w)))}
		})
		x := []api.Rat{ratio(1, 2), ratio(1, 3), ratio(1, 5)}
		if e := checkAt(t, wide, x); e != api.OK {
			t.Errorf("with parameter %d the error is %d", i, e)
		}
	}
}
