package lower_test

import (
	"reflect"
	"slices"
	"testing"
	"unsafe"

	"exactppl/api"
	"exactppl/lower"
)

// R3, R4, R5 and the rule that results are new memory

// copyInto makes the first value a copy of the second one in new memory, with so many zeros behind all lists, which are no part of them.
func copyInto(to, from reflect.Value, further int) {
	switch from.Kind() {
	case reflect.Struct:
		for i := range from.NumField() {
			copyInto(to.Field(i), from.Field(i), further)
		}
	case reflect.Slice:
		n := from.Len()
		to.Set(reflect.MakeSlice(from.Type(), n+further, n+further))
		for i := range n {
			copyInto(to.Index(i), from.Index(i), further)
		}
		to.SetLen(n)
	default:
		to.Set(from)
	}
}

// copyOf returns a copy of v in new memory.
func copyOf[T any](v T) T {
	var w T
	copyInto(reflect.ValueOf(&w).Elem(), reflect.ValueOf(v), 0)
	return w
}

// same reports whether two values are the same, where nil and an empty list are.
func same[T any](a, b T) bool { return reflect.DeepEqual(copyOf(a), copyOf(b)) }

// roomy returns a copy of v with an empty list in the place of every nil, and with zeros behind all lists.
func roomy[T any](v T) T {
	var w T
	copyInto(reflect.ValueOf(&w).Elem(), reflect.ValueOf(v), 2)
	return w
}

// stretch is the memory of a list, also that behind it, from the address from to the address to.
type stretch struct{ from, to uintptr }

// stretches appends the memory of all lists of v.
func stretches(l []stretch, v reflect.Value) []stretch {
	switch v.Kind() {
	case reflect.Struct:
		for i := range v.NumField() {
			l = stretches(l, v.Field(i))
		}
	case reflect.Slice:
		if v.Cap() > 0 {
			l = append(l, stretch{v.Pointer(), v.Pointer() + uintptr(v.Cap())*v.Type().Elem().Size()})
		}
		for i := range v.Len() {
			l = stretches(l, v.Index(i))
		}
	}
	return l
}

// overlap reports whether two of the stretches share memory.
func overlap(l []stretch) bool {
	slices.SortFunc(l, func(a, b stretch) int {
		if a.from < b.from {
			return -1
		}
		return 1
	})
	for i := range len(l) - 1 {
		if l[i].to > l[i+1].from {
			return true
		}
	}
	return false
}

// No two lists of a module share memory, and none shares memory with the program.
func TestResultsAreNew(t *testing.T) {
	m := newMaker(125)
	programs := each(slices.Repeat([]int{0}, 1500), func(int) api.Program { return m.program() })
	for _, s := range []string{
		"var l: list[4] bool; l := push(push(l, true), false); l := l == [l[0]] ? l : []; return l;",
		"param p; func f(l: list[2] bool) { repeat 3 { l := push(l, true); weight p; } return l; } var l: list[2] bool; repeat 2 { repeat 2 { l := f(l); if l[1] { repeat 2 { l := []; } } else { while l[0] { l := [l[1]]; } } } } return l;",
		"query k { var i: int[0, 5]; repeat 2 { i ~ uniform(0, 3); i ~ binomial(3, 1/3); i ~ table(1; 1/2, 0, 1/2); } return i; } var t: (bool, (bool, int[0, 5])); t := (t.0, t.1); observe t == t; return t;",
		"var x: real; repeat 3 { x ~ interval(-1/2, 1/3); x := x * 1/2 + x * 1/2 + 1/2; observe x < 2/3; } return x;",
		"var n: nat; repeat 3 { n ~ geometric(1/3); } return n;",
	} {
		programs = append(programs, parse(t, s))
	}
	for _, p := range programs {
		before := copyOf(p)
		module, e := lower.Lower(p)
		if !reflect.DeepEqual(copyOf(p), before) {
			t.Fatalf("%+v changed", before)
		}
		if overlap(append(stretches(nil, reflect.ValueOf(module)), stretches(nil, reflect.ValueOf(p))...)) {
			t.Fatalf("lists of the module of %+v share memory", p)
		}
		if again, code := lower.Lower(p); !same(again, module) || code != e {
			t.Fatalf("the second result for %+v is %d with %+v, not %d with %+v", p, code, again, e, module)
		}
	}
}

// Every way to write an empty list is the same, and what is behind the lists of an argument is not touched.
func TestArguments(t *testing.T) {
	m := newMaker(127)
	for range 1500 {
		p := m.program()
		want, code := lower.Lower(p)
		full := roomy(p)
		if module, e := lower.Lower(full); !same(module, want) || e != code {
			t.Fatalf("Lower(%+v) is %d with %+v, not %d with %+v", p, e, module, code, want)
		}
		if !reflect.DeepEqual(full, roomy(p)) || !isRoomy(reflect.ValueOf(full)) {
			t.Fatalf("%+v changed", p)
		}
	}
}

// isRoomy reports whether zeros are still behind all lists.
func isRoomy(v reflect.Value) bool {
	switch v.Kind() {
	case reflect.Struct:
		for i := range v.NumField() {
			if !isRoomy(v.Field(i)) {
				return false
			}
		}
	case reflect.Slice:
		n := v.Len()
		for i := range v.Cap() {
			element := v.Slice(0, v.Cap()).Index(i)
			if i < n && !isRoomy(element) || i >= n && !element.IsZero() {
				return false
			}
		}
	}
	return true
}

// The names belong to the caller, who may overwrite them after the call.
func TestNamesAreNotKept(t *testing.T) {
	memory := []byte("name")
	p := api.Program{Vars: []api.Decl{{Name: unsafe.String(&memory[0], len(memory)), Type: boolType}, {Name: "nano", Type: numbers}}, Result: "name"}
	for _, c := range []struct {
		text string
		outs []int
		e    api.Errno
	}{{"name", []int{0}, api.OK}, {"nano", nil, api.ErrName}, {"name", []int{0}, api.OK}} {
		copy(memory, c.text)
		if m, e := lower.Lower(p); !slices.Equal(m.Outs, c.outs) || e != c.e {
			t.Errorf("with the name %s the result is %v with the error %d", c.text, m.Outs, e)
		}
	}
}

func TestParallelCalls(t *testing.T) {
	m := newMaker(129)
	var programs []api.Program
	for range 50 {
		programs = append(programs, m.program())
	}
	results := func() string {
		s := ""
		for _, p := range programs {
			module, e := lower.Lower(p)
			s += show(module) + show(e)
		}
		return s
	}
	want := results()
	got := make(chan string)
	for range 8 {
		go func() { got <- results() }()
	}
	for range 8 {
		if s := <-got; s != want {
			t.Errorf("the results are %s, not %s", s, want)
		}
	}
}
