package nested_test

import (
	"reflect"
	"slices"
	"testing"

	"exactppl/api"
	"exactppl/nested"
)

// R3, R4, R5 and the rule that results are new memory

// copyInto makes the first value a copy of the second one in new memory, with so many zeros behind all lists, which are no part of them.
func copyInto(to, from reflect.Value, further int) {
	switch from.Kind() {
	case reflect.Struct:
		for i := range from.NumField() {
			copyInto(to.Field(i), from.Field(i), further)
		}
	case reflect.Array:
		for i := range from.Len() {
			copyInto(to.Index(i), from.Index(i), further)
		}
	case reflect.Slice:
		n := from.Len()
		to.Set(reflect.MakeSlice(from.Type(), n+further, n+further))
		for i := range n {
			copyInto(to.Index(i), from.Index(i), further)
		}
		to.SetLen(n)
	default:
		to.Set(from)
	}
}

// copyOf returns a copy of v in new memory.
func copyOf[T any](v T) T {
	var w T
	copyInto(reflect.ValueOf(&w).Elem(), reflect.ValueOf(v), 0)
	return w
}

// same reports whether two values are the same, where nil and an empty list are.
func same[T any](a, b T) bool { return reflect.DeepEqual(copyOf(a), copyOf(b)) }

// roomy returns a copy of v with an empty list in the place of every nil, and with zeros behind all lists.
func roomy[T any](v T) T {
	var w T
	copyInto(reflect.ValueOf(&w).Elem(), reflect.ValueOf(v), 2)
	return w
}

// isRoomy reports whether zeros are still behind all lists.
func isRoomy(v reflect.Value) bool {
	switch v.Kind() {
	case reflect.Struct:
		for i := range v.NumField() {
			if !isRoomy(v.Field(i)) {
				return false
			}
		}
	case reflect.Slice:
		n := v.Len()
		for i := range v.Cap() {
			element := v.Slice(0, v.Cap()).Index(i)
			if i < n && !isRoomy(element) || i >= n && !element.IsZero() {
				return false
			}
		}
	}
	return true
}

// stretch is the memory of a list, also that behind it, from the address from to the address to.
type stretch struct{ from, to uintptr }

// stretches appends the memory of all lists of v.
func stretches(l []stretch, v reflect.Value) []stretch {
	switch v.Kind() {
	case reflect.Struct:
		for i := range v.NumField() {
			l = stretches(l, v.Field(i))
		}
	case reflect.Slice:
		if v.Cap() > 0 {
			l = append(l, stretch{v.Pointer(), v.Pointer() + uintptr(v.Cap())*v.Type().Elem().Size()})
		}
		for i := range v.Len() {
			l = stretches(l, v.Index(i))
		}
	}
	return l
}

// overlap reports whether two of the stretches share memory.
func overlap(l []stretch) bool {
	slices.SortFunc(l, func(a, b stretch) int {
		if a.from < b.from {
			return -1
		}
		return 1
	})
	for i := range len(l) - 1 {
		if l[i].to > l[i+1].from {
			return true
		}
	}
	return false
}

// No two lists of a result share memory, and none shares memory with the argument. The argument does not change. Equal arguments give equal results. Every way to write an empty list is the same, and what is behind the lists of an argument is not touched.
func TestMemory(t *testing.T) {
	m := newMaker(183)
	for range 600 {
		x := copyOf(m.argument()) // with lists that share no memory
		before := copyOf(x)
		first, e := nested.Resolve(x)
		if overlap(stretches(stretches(nil, reflect.ValueOf(first)), reflect.ValueOf(x))) {
			t.Fatalf("lists of the result for %+v share memory", before)
		}
		if !same(x, before) {
			t.Fatalf("Resolve changed %+v", before)
		}
		if second, f := nested.Resolve(x); f != e || !same(second, first) {
			t.Fatalf("the results for %+v are %+v and %+v, the errors %d and %d", before, first, second, e, f)
		}
		full := roomy(x)
		if got, f := nested.Resolve(full); f != e || !same(got, first) {
			t.Fatalf("the results for %+v are %+v and %+v, the errors %d and %d", before, first, got, e, f)
		}
		if !reflect.DeepEqual(full, roomy(x)) || !isRoomy(reflect.ValueOf(full)) {
			t.Fatalf("Resolve changed %+v", before)
		}
	}
}

func TestParallelCalls(t *testing.T) {
	m := newMaker(184)
	var list []api.Module
	for range 100 {
		list = append(list, m.argument())
	}
	type result struct {
		M   api.Module
		Err api.Errno
	}
	all := func() []result {
		return each(list, func(m api.Module) result {
			n, e := nested.Resolve(m)
			return result{n, e}
		})
	}
	want := all()
	got := make(chan []result)
	for range 8 {
		go func() { got <- all() }()
	}
	for range 8 {
		if l := <-got; !same(l, want) {
			t.Error("the results differ")
		}
	}
}
