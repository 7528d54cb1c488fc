package unfold_test

import (
	"reflect"
	"slices"
	"testing"

	"exactppl/api"
	"exactppl/unfold"
)

// R3, R4, R5 and the rule that results are new memory

// copyInto makes the first value a copy of the second one in new memory, with so many zeros behind all lists, which are no part of them.
func copyInto(to, from reflect.Value, further int) {
	switch from.Kind() {
	case reflect.Struct:
		for i := range from.NumField() {
			copyInto(to.Field(i), from.Field(i), further)
		}
	case reflect.Array:
		for i := range from.Len() {
			copyInto(to.Index(i), from.Index(i), further)
		}
	case reflect.Slice:
		n := from.Len()
		to.Set(reflect.MakeSlice(from.Type(), n+further, n+further))
		for i := range n {
			copyInto(to.Index(i), from.Index(i), further)
		}
		to.SetLen(n)
	default:
		to.Set(from)
	}
}

// copyOf returns a copy of v in new memory.
func copyOf[T any](v T) T {
	var w T
	copyInto(reflect.ValueOf(&w).Elem(), reflect.ValueOf(v), 0)
	return w
}

// same reports whether two values are the same, where nil and an empty list are.
func same[T any](a, b T) bool { return reflect.DeepEqual(copyOf(a), copyOf(b)) }

// roomy returns a copy of v with an empty list in the place of every nil, and with zeros behind all lists.
func roomy[T any](v T) T {
	var w T
	copyInto(reflect.ValueOf(&w).Elem(), reflect.ValueOf(v), 2)
	return w
}

// isRoomy reports whether zeros are still behind all lists.
func isRoomy(v reflect.Value) bool {
	switch v.Kind() {
	case reflect.Struct:
		for i := range v.NumField() {
			if !isRoomy(v.Field(i)) {
				return false
			}
		}
	case reflect.Slice:
		n := v.Len()
		for i := range v.Cap() {
			element := v.Slice(0, v.Cap()).Index(i)
			if i < n && !isRoomy(element) || i >= n && !element.IsZero() {
				return false
			}
		}
	}
	return true
}

// stretch is the memory of a list, also that behind it, from the address from to the address to.
type stretch struct{ from, to uintptr }

// stretches appends the memory of all lists of v.
func stretches(l []stretch, v reflect.Value) []stretch {
	switch v.Kind() {
	case reflect.Struct:
		for i := range v.NumField() {
			l = stretches(l, v.Field(i))
		}
	case reflect.Slice:
		if v.Cap() > 0 {
			l = append(l, stretch{v.Pointer(), v.Pointer() + uintptr(v.Cap())*v.Type().Elem().Size()})
		}
		for i := range v.Len() {
			l = stretches(l, v.Index(i))
		}
	}
	return l
}

// overlap reports whether two of the stretches share memory.
func overlap(l []stretch) bool {
	slices.SortFunc(l, func(a, b stretch) int {
		if a.from < b.from {
			return -1
		}
		return 1
	})
	for i := range len(l) - 1 {
		if l[i].to > l[i+1].from {
			return true
		}
	}
	return false
}

// results is what all functions return for a module and a number.
type results struct {
	unfolding         api.Module
	unfoldError       api.Errno
	complete, isReady bool // of the module and of the unfolding
	depth             int
	depthError        api.Errno
}

func resultsFor(m api.Module, k int) results {
	var r results
	r.unfolding, r.unfoldError = unfold.Unfold(m, k)
	r.complete, r.isReady = unfold.Complete(m), unfold.Complete(r.unfolding)
	r.depth, r.depthError = unfold.Depth(m)
	return r
}

func sameResults(a, b results) bool {
	equal := same(a.unfolding, b.unfolding)
	a.unfolding, b.unfolding = api.Module{}, api.Module{}
	return equal && reflect.DeepEqual(a, b)
}

// No two lists of a result share memory, and none shares memory with an argument. No argument changes. Equal arguments give equal results. Every way to write an empty list is the same, and what is behind the lists of an argument is not touched.
func TestMemory(t *testing.T) {
	m := newMaker(141)
	unfoldings := 0
	for range 1500 {
		x := m.module(m.anyKind())
		if m.often(5) {
			m.damage(&x)
		}
		k := m.IntN(5)
		before := copyOf(x)
		first := resultsFor(x, k)
		if first.unfoldError == api.OK {
			unfoldings++
		}
		if overlap(stretches(stretches(nil, reflect.ValueOf(first.unfolding)), reflect.ValueOf(x))) {
			t.Fatalf("lists of the results for %+v and %d share memory", x, k)
		}
		if !same(x, before) {
			t.Fatalf("%+v changed", before)
		}
		if second := resultsFor(x, k); !sameResults(second, first) {
			t.Fatalf("the results for %+v and %d are %+v, not %+v", x, k, second, first)
		}
		full := roomy(x)
		if got := resultsFor(full, k); !sameResults(got, first) {
			t.Fatalf("the results for %+v and %d are %+v, not %+v", x, k, got, first)
		}
		if !reflect.DeepEqual(full, roomy(x)) || !isRoomy(reflect.ValueOf(full)) {
			t.Fatalf("%+v changed", x)
		}
	}
	if unfoldings < 500 {
		t.Errorf("there are %d unfoldings", unfoldings)
	}
}

// A list of a module that occurs several times is copied each time.
func TestSharedLists(t *testing.T) {
	cells, outs := []api.Cell{truth, truth}, []int{0}
	f := node(api.FoAnd, variable(0), not(num(1)))
	f.Args[1] = f.Args[0]
	l := []api.Cmd{flip(0), observe(f), {Kind: api.CmdSet, Outs: outs, Args: f.Args[:1]}, call(0, outs, f.Args[:1]...)}
	l = append(l, branch(f, l, l), loop(f, l...))
	p := api.Proc{Cells: cells, Args: 1, Body: l[:4], Outs: outs}
	m := api.Module{Cells: cells, Procs: []api.Proc{p, p}, Body: l, Outs: outs, Type: boolean}
	for k := range 4 {
		n, e := check(t, m, k)
		if e != api.OK || overlap(stretches(nil, reflect.ValueOf(n))) {
			t.Errorf("for k = %d the error is %d, or lists share memory", k, e)
		}
	}
}

func TestParallelCalls(t *testing.T) {
	m := newMaker(143)
	var modules []api.Module
	for range 60 {
		modules = append(modules, m.module(m.anyKind()))
	}
	all := func() string {
		s := ""
		for _, x := range modules {
			s += show(resultsFor(x, 2))
		}
		return s
	}
	want := all()
	got := make(chan string)
	for range 8 {
		go func() { got <- all() }()
	}
	for range 8 {
		if s := <-got; s != want {
			t.Error("the results differ")
		}
	}
}
