package core_test

import (
	"reflect"
	"strings"
	"testing"

	"exactppl/api"
	"exactppl/core"
	"exactppl/polynomial"
	"exactppl/rational"
)

// P13.5: modules that are equal

// text returns what v denotes as a text, where nil and an empty list are the same, and whether all its polynomials are valid.
func text(v reflect.Value) (string, bool) {
	switch x := v.Interface().(type) {
	case api.Rat:
		return rational.Format(x), true
	case api.Poly:
		s, e := polynomial.Format(x, strings.Fields("a b c d e f g h"))
		return s, e == api.OK
	}
	valid := true
	var l []string
	add := func(v reflect.Value) {
		s, ok := text(v)
		l, valid = append(l, s), valid && ok
	}
	switch v.Kind() {
	case reflect.Struct:
		for i := range v.NumField() {
			add(v.Field(i))
		}
	case reflect.Slice:
		for i := range v.Len() {
			add(v.Index(i))
		}
	default:
		return show(v.Int()), true
	}
	return "(" + strings.Join(l, " ") + ")", valid
}

// areEqual compares by the definition.
func areEqual[T any](a, b T) bool {
	s, ok := text(reflect.ValueOf(a))
	other, _ := text(reflect.ValueOf(b))
	return ok && s == other
}

// withoutSites returns l with all sites 0.
func withoutSites(l []api.Cmd) []api.Cmd {
	return each(l, func(c api.Cmd) api.Cmd {
		c.Site, c.Then, c.Else = 0, withoutSites(c.Then), withoutSites(c.Else)
		return c
	})
}

// checkEqual checks Equal of two modules and Same of their bodies. It reports what they return.
func checkEqual(t *testing.T, a, b api.Module) (equal, sameBody bool) {
	t.Helper()
	equal, sameBody = areEqual(a, b), areEqual(withoutSites(a.Body), withoutSites(b.Body))
	for _, pair := range [][2]api.Module{{a, b}, {b, a}} {
		if got := core.Equal(pair[0], pair[1]); got != equal {
			t.Errorf("Equal is %v for %+v and %+v", got, pair[0], pair[1])
		}
		if got := core.Same(pair[0].Body, pair[1].Body); got != sameBody {
			t.Errorf("Same is %v for %+v and %+v", got, pair[0].Body, pair[1].Body)
		}
	}
	return equal, sameBody
}

// disguise writes all fractions and valid polynomials in v in other forms.
func (m *maker) disguise(v reflect.Value) {
	switch x := v.Interface().(type) {
	case api.Rat:
		v.Set(reflect.ValueOf(m.disguised(rational.Norm(x))))
		return
	case api.Poly:
		if normal, e := polynomial.Norm(x); e == api.OK {
			v.Set(reflect.ValueOf(m.disguisedPoly(normal)))
		}
		return
	}
	switch v.Kind() {
	case reflect.Struct:
		for i := range v.NumField() {
			m.disguise(v.Field(i))
		}
	case reflect.Slice:
		for i := range v.Len() {
			m.disguise(v.Index(i))
		}
	}
}

func TestEqualOfRandomModules(t *testing.T) {
	m := newMaker(147)
	var met [4]int
	for range 6000 {
		x := m.module(m.often(3))
		for m.often(3) {
			m.damage(&x)
		}
		y := copyOf(x)
		if m.often(2) {
			m.disguise(reflect.ValueOf(&y).Elem())
		}
		for m.often(2) {
			m.damage(&y)
		}
		equal, sameBody := checkEqual(t, x, y)
		i := 0
		if equal {
			i++
		}
		if sameBody {
			i += 2
		}
		met[i]++
	}
	if met[0] < 500 || met[2] < 500 || met[3] < 500 {
		t.Errorf("the results occur so often: %v", met)
	}
}

// leaves returns the places of all numbers and lists in v.
func leaves(l []reflect.Value, v reflect.Value) []reflect.Value {
	switch v.Kind() {
	case reflect.Struct:
		for i := range v.NumField() {
			l = leaves(l, v.Field(i))
		}
		return l
	case reflect.Array:
		for i := range v.Len() {
			l = leaves(l, v.Index(i))
		}
		return l
	case reflect.Slice:
		l = append(l, v)
		for i := range v.Len() {
			l = leaves(l, v.Index(i))
		}
		return l
	}
	return append(l, v)
}

// Each number and each list of a module is changed.
func TestEqualLooksEverywhere(t *testing.T) {
	m := spoilt(func(m *api.Module) {
		m.Nested[1].Procs = []api.Proc{{Cells: []api.Cell{truth}, Outs: []int{0}, Body: []api.Cmd{cut}}}
		m.Nested[1].Nested = []api.Module{nested(draw(0, fair(2)))}
	})
	n := copyOf(m)
	equal, different := 0, 0
	for _, place := range leaves(nil, reflect.ValueOf(&n).Elem()) {
		before := reflect.New(place.Type()).Elem()
		before.Set(place)
		switch place.Kind() {
		case reflect.Bool:
			place.SetBool(!place.Bool())
		case reflect.Uint32:
			place.SetUint(place.Uint() + 1)
		case reflect.Slice:
			place.Set(reflect.Append(place.Slice3(0, place.Len(), place.Len()), reflect.Zero(place.Type().Elem())))
		default:
			place.SetInt(place.Int() + 1)
		}
		if isEqual, _ := checkEqual(t, m, n); isEqual {
			equal++
		} else {
			different++
		}
		place.Set(before)
	}
	if isEqual, isSame := checkEqual(t, m, n); !isEqual || !isSame || equal < 100 || different < 500 {
		t.Errorf("%d changes are not noticed, %d are", equal, different)
	}
}

func TestInvalidPolynomials(t *testing.T) {
	for _, p := range []api.Poly{{{Mono: api.Mono{-1}}}, {{Mono: api.Mono{api.MaxExp + 1}, Coef: ratio(1, 1)}}, {{Coef: ratio(1, 1)}, {Mono: api.Mono{0, 0, 0, 0, 0, 0, 0, -5}}}} {
		for _, l := range [][]api.Cmd{{draw(0, table(0, p))}, {{Kind: api.CmdCut, Dist: api.Dist{Weights: []api.Poly{constant(1, 1), p}}}}, {branch(num(1), nil, []api.Cmd{draw(0, table(0, constant(1, 1), p))})}, {branch(num(1), []api.Cmd{draw(0, table(0, p))}, nil)}} {
			if core.Same(l, l) {
				t.Errorf("%v is the same as itself", l)
			}
			m := empty()
			for _, body := range parts(&m) {
				*body = l
				if core.Equal(m, m) {
					t.Errorf("%v is equal to itself", m)
				}
				*body = nil
			}
		}
	}
	if m := empty(); !core.Equal(m, m) {
		t.Errorf("%v is not equal to itself", m)
	}
}

func TestSameForms(t *testing.T) {
	a := []api.Cmd{observe(node(api.FoLt, fraction(1, 2), num(3))), set(0, node(api.FoAdd, api.Form{Op: api.FoRat}, variable(1)))}
	b := []api.Cmd{observe(node(api.FoLt, api.Form{Op: api.FoRat, Rat: api.Rat{Num: []uint32{2, 0}, Den: []uint32{4}}}, num(3))), set(0, node(api.FoAdd, fraction(0, 1), variable(1)))}
	if !core.Same(a, b) || !core.Same(nil, []api.Cmd{}) || core.Same(a, a[:1]) || core.Same(nil, a) || core.Same(a[:1], a[1:]) {
		t.Error("Same")
	}
	// The fields that are not used are compared, too: by what they denote.
	c, d := api.Cmd{Kind: api.CmdCut}, api.Cmd{Kind: api.CmdCut, Form: api.Form{Rat: ratio(0, 1)}, Dist: api.Dist{From: api.Rat{Neg: true}, Weights: []api.Poly{}}}
	if !core.Same([]api.Cmd{c}, []api.Cmd{d}) {
		t.Error("fractions that are not used are compared by their fields")
	}
	d.Dist.Weights = make([]api.Poly, 1)
	if core.Same([]api.Cmd{c}, []api.Cmd{d}) {
		t.Error("a weight that is not used is not seen")
	}
	// The site of every command counts for Equal, and of none for Same.
	for i := range rich().Body {
		m, n := rich(), rich()
		n.Body[i].Site = 1
		if equal, isSame := checkEqual(t, m, n); equal || !isSame {
			t.Errorf("the site of command %d: %v, %v", i, equal, isSame)
		}
	}
}

// Very deep forms and lists have no limit here.
func TestEqualOfDeepModules(t *testing.T) {
	form := func(inner api.Form) []api.Cmd {
		for range 60000 {
			inner = node(api.FoNot, inner)
		}
		return []api.Cmd{observe(inner)}
	}
	list := func(inner api.Form) []api.Cmd {
		l := []api.Cmd{observe(inner)}
		for range 30000 {
			l = []api.Cmd{{Kind: api.CmdIf, Else: []api.Cmd{{Kind: api.CmdWhile, Then: l}}}}
		}
		return l
	}
	for _, make := range []func(api.Form) []api.Cmd{form, list} {
		a, b, c := make(num(1)), make(num(1)), make(num(2))
		if !core.Same(a, b) || core.Same(a, c) {
			t.Error("Same of deep commands")
		}
		m, n := module([]api.Cell{truth}, a...), module([]api.Cell{truth}, c...)
		if !core.Equal(m, m) || core.Equal(m, n) || core.Validate(m) != api.ErrLimit {
			t.Error("Equal of deep modules")
		}
	}
}
