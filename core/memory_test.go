package core_test

import (
	"reflect"
	"slices"
	"testing"

	"exactppl/api"
	"exactppl/core"
)

// R3, R4, R5 and the rule that results are new memory

// copyInto makes the first value a copy of the second one in new memory, with so many zeros behind all lists, which are no part of them.
func copyInto(to, from reflect.Value, further int) {
	switch from.Kind() {
	case reflect.Struct:
		for i := range from.NumField() {
			copyInto(to.Field(i), from.Field(i), further)
		}
	case reflect.Array:
		for i := range from.Len() {
			copyInto(to.Index(i), from.Index(i), further)
		}
	case reflect.Slice:
		n := from.Len()
		to.Set(reflect.MakeSlice(from.Type(), n+further, n+further))
		for i := range n {
			copyInto(to.Index(i), from.Index(i), further)
		}
		to.SetLen(n)
	default:
		to.Set(from)
	}
}

// copyOf returns a copy of v in new memory.
func copyOf[T any](v T) T {
	var w T
	copyInto(reflect.ValueOf(&w).Elem(), reflect.ValueOf(v), 0)
	return w
}

// same reports whether two values are the same, where nil and an empty list are.
func same[T any](a, b T) bool { return reflect.DeepEqual(copyOf(a), copyOf(b)) }

// roomy returns a copy of v with an empty list in the place of every nil, and with zeros behind all lists.
func roomy[T any](v T) T {
	var w T
	copyInto(reflect.ValueOf(&w).Elem(), reflect.ValueOf(v), 2)
	return w
}

// isRoomy reports whether zeros are still behind all lists.
func isRoomy(v reflect.Value) bool {
	switch v.Kind() {
	case reflect.Struct:
		for i := range v.NumField() {
			if !isRoomy(v.Field(i)) {
				return false
			}
		}
	case reflect.Slice:
		n := v.Len()
		for i := range v.Cap() {
			element := v.Slice(0, v.Cap()).Index(i)
			if i < n && !isRoomy(element) || i >= n && !element.IsZero() {
				return false
			}
		}
	}
	return true
}

// stretch is the memory of a list, also that behind it, from the address from to the address to.
type stretch struct{ from, to uintptr }

// stretches appends the memory of all lists of v.
func stretches(l []stretch, v reflect.Value) []stretch {
	switch v.Kind() {
	case reflect.Struct:
		for i := range v.NumField() {
			l = stretches(l, v.Field(i))
		}
	case reflect.Slice:
		if v.Cap() > 0 {
			l = append(l, stretch{v.Pointer(), v.Pointer() + uintptr(v.Cap())*v.Type().Elem().Size()})
		}
		for i := range v.Len() {
			l = stretches(l, v.Index(i))
		}
	}
	return l
}

// overlap reports whether two of the stretches share memory.
func overlap(l []stretch) bool {
	slices.SortFunc(l, func(a, b stretch) int {
		if a.from < b.from {
			return -1
		}
		return 1
	})
	for i := range len(l) - 1 {
		if l[i].to > l[i+1].from {
			return true
		}
	}
	return false
}

// results returns what all functions return for a module, another one and a point.
func results(m, other api.Module, x []api.Rat) []any {
	class, classError := core.Class(m)
	sites, sitesError := core.Sites(m)
	numbered, numberError := core.Number(m)
	at, atError := core.At(m, x)
	l := []any{core.Validate(m), core.Straight(m), class, classError, sites, sitesError, numbered, numberError, at, atError}
	l = append(l, core.Uses(m.Body), core.Writes(m.Body), core.Count(m.Body), core.Same(m.Body, other.Body), core.Equal(m, other))
	for _, c := range m.Body {
		value, e := core.Eval(c.Form, []int{1, 0, 2})
		l = append(l, value, e, core.Reads(c.Form))
	}
	for _, c := range m.Cells {
		l = append(l, core.Clamp(c, -5000), core.Clamp(c, 5000))
	}
	return l
}

// sameResults compares lists of results.
func sameResults(a, b []any) bool {
	return slices.EqualFunc(a, b, func(x, y any) bool {
		v, w := reflect.New(reflect.TypeOf(x)).Elem(), reflect.New(reflect.TypeOf(y)).Elem()
		copyInto(v, reflect.ValueOf(x), 0)
		copyInto(w, reflect.ValueOf(y), 0)
		return reflect.DeepEqual(v.Interface(), w.Interface())
	})
}

// samples returns modules: valid ones, some of them straight, and damaged ones; and points for them.
func samples(seed uint64, n int) (modules []api.Module, points [][]api.Rat) {
	m := newMaker(seed)
	add := func(x api.Module) {
		modules, points = append(modules, x), append(points, each(make([]int, max(0, min(x.Params, 4))), func(int) api.Rat { return m.rat(0, 4) }))
	}
	add(rich())
	for range n {
		x := m.module(m.often(3))
		if y, e := core.Number(x); e == api.OK && m.often(3) {
			x = copyOf(y)
		}
		for m.often(3) {
			m.damage(&x)
		}
		add(x)
	}
	return modules, points
}

// No two lists of a result share memory, and none shares memory with an argument. No argument changes. Equal arguments give equal results.
func TestResultsAreNew(t *testing.T) {
	modules, points := samples(131, 700)
	for i, m := range modules {
		m = copyOf(m)
		x, before := points[i], copyOf(m)
		pointBefore := copyOf(x)
		first := results(m, m, x)
		for j, r := range first {
			if overlap(stretches(stretches(stretches(nil, reflect.ValueOf(r)), reflect.ValueOf(m)), reflect.ValueOf(x))) {
				t.Fatalf("lists of the result %d for %+v share memory", j, m)
			}
		}
		if !same(m, before) || !same(x, pointBefore) {
			t.Fatalf("%+v changed", before)
		}
		if second := results(m, m, x); !sameResults(second, first) {
			t.Fatalf("the results for %+v are %v, not %v", m, second, first)
		}
	}
}

// A list of a module that occurs several times is copied each time.
func TestSharedLists(t *testing.T) {
	cells, outs := []api.Cell{truth, truth}, []int{0}
	f := node(api.FoAnd, variable(0), fraction(1, 2))
	f.Args[1] = f.Args[0]
	l := []api.Cmd{draw(0, fair(3)), observe(f), {Kind: api.CmdSet, Outs: outs, Args: f.Args[:1]}}
	l = append(l, branch(f, l, l))
	inner := api.Module{Cells: cells, Body: l[:1], Outs: outs, Type: boolean}
	p := api.Proc{Cells: cells, Args: 1, Body: l, Outs: outs}
	m := api.Module{Params: 1, Cells: cells, Procs: []api.Proc{p, p}, Nested: []api.Module{inner, inner}, Body: l, Outs: outs, Type: boolean}
	checkModule(t, "a module that shares lists", m, api.OK)
	x := []api.Rat{ratio(1, 2)}
	for i, r := range results(m, m, x) {
		if overlap(stretches(nil, reflect.ValueOf(r))) {
			t.Errorf("lists of the result %d share memory", i)
		}
	}
	straight := api.Module{Cells: cells, Body: slices.Repeat(l[:1], 2), Outs: outs, Type: boolean}
	straight.Body[1].Site = 1
	sites, e := core.Sites(straight)
	if e != api.OK || len(sites) != 2 || overlap(stretches(nil, reflect.ValueOf(sites))) {
		t.Errorf("Sites is %v with the error %d", sites, e)
	}
}

// Every way to write an empty list is the same, and what is behind the lists of an argument is not touched.
func TestArguments(t *testing.T) {
	modules, points := samples(133, 700)
	for i, m := range modules {
		want := results(copyOf(m), m, points[i])
		full, x := roomy(m), roomy(points[i])
		if got := results(full, m, x); !sameResults(got, want) {
			t.Fatalf("the results for %+v are %v, not %v", m, got, want)
		}
		if got := results(m, full, x); !sameResults(got, want) {
			t.Fatalf("the results for %+v are %v, not %v", m, got, want)
		}
		if !reflect.DeepEqual(full, roomy(m)) || !isRoomy(reflect.ValueOf(full)) || !isRoomy(reflect.ValueOf(x)) {
			t.Fatalf("%+v changed", m)
		}
	}
}

func TestParallelCalls(t *testing.T) {
	modules, points := samples(135, 60)
	all := func() string {
		s := ""
		for i, m := range modules {
			s += show(results(m, modules[0], points[i]))
		}
		return s
	}
	want := all()
	got := make(chan string)
	for range 8 {
		go func() { got <- all() }()
	}
	for range 8 {
		if s := <-got; s != want {
			t.Errorf("the results are %s, not %s", s, want)
		}
	}
}
