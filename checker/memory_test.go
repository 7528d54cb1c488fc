package checker_test

import (
	"reflect"
	"slices"
	"testing"
	"unsafe"

	"exactppl/api"
	"exactppl/checker"
)

// R3, R4, R5 and the rule that results are new memory

// copyInto makes the first value a copy of the second one in new memory, with so many zeros behind all lists, which are no part of them.
func copyInto(to, from reflect.Value, further int) {
	switch from.Kind() {
	case reflect.Struct:
		for i := range from.NumField() {
			copyInto(to.Field(i), from.Field(i), further)
		}
	case reflect.Slice:
		n := from.Len()
		to.Set(reflect.MakeSlice(from.Type(), n+further, n+further))
		for i := range n {
			copyInto(to.Index(i), from.Index(i), further)
		}
		to.SetLen(n)
	default:
		to.Set(from)
	}
}

// copyOf returns a copy of v in new memory.
func copyOf[T any](v T) T {
	var w T
	copyInto(reflect.ValueOf(&w).Elem(), reflect.ValueOf(v), 0)
	return w
}

// roomy returns a copy of v with an empty list in the place of every nil, and with zeros behind all lists.
func roomy[T any](v T) T {
	var w T
	copyInto(reflect.ValueOf(&w).Elem(), reflect.ValueOf(v), 2)
	return w
}

// isRoomy reports whether zeros are still behind all lists.
func isRoomy(v reflect.Value) bool {
	switch v.Kind() {
	case reflect.Struct:
		for i := range v.NumField() {
			if !isRoomy(v.Field(i)) {
				return false
			}
		}
	case reflect.Slice:
		n := v.Len()
		for i := range v.Cap() {
			element := v.Slice(0, v.Cap()).Index(i)
			if i < n && !isRoomy(element) || i >= n && !element.IsZero() {
				return false
			}
		}
	}
	return true
}

func TestArguments(t *testing.T) {
	m := newMaker(307)
	for range 3000 {
		p := m.program()
		if m.often(2) {
			m.damage(&p)
		}
		want, code := checker.Check(p)
		full := roomy(p)
		info, e := checker.Check(full)
		if show(info) != show(want) || e != code {
			t.Fatalf("Check(%s) is %d with %v, not %d with %v", show(p), e, info, code, want)
		}
		if !reflect.DeepEqual(full, roomy(p)) || !isRoomy(reflect.ValueOf(full)) {
			t.Fatalf("%s changed", show(p))
		}
	}
	for range 3000 {
		e := m.randomProbability(3)
		want, code := checker.Probability(pqr, e)
		full, params := roomy(e), roomy(pqr)
		p, again := checker.Probability(params, full)
		if show(p) != show(want) || again != code {
			t.Fatalf("Probability(%s) is %d with %v, not %d with %v", show(e), again, p, code, want)
		}
		if !reflect.DeepEqual(full, roomy(e)) || !isRoomy(reflect.ValueOf(full)) || !slices.Equal(params[:cap(params)], []string{"p", "q", "r", "", ""}) {
			t.Fatalf("%s or %v changed", show(e), params)
		}
	}
}

// overwrite changes all numbers of a polynomial, also those behind its lists.
func overwrite(p api.Poly) {
	for i := range p {
		for _, l := range [][]uint32{p[i].Coef.Num, p[i].Coef.Den} {
			l = l[:cap(l)]
			for j := range l {
				l[j] += 7
			}
		}
	}
	p = p[:cap(p)]
	for i := range p {
		p[i].Mono[0] += 7
	}
}

func TestResultsAreNew(t *testing.T) {
	m := newMaker(309)
	for range 3000 {
		e := m.randomProbability(m.IntN(4))
		first, code := checker.Probability(pqr, e)
		want, before := show(first), show(e)
		for i := range first { // no two lists of the result share memory
			u := copyOf(first)
			overwrite(first[i : i+1 : i+1])
			u[i] = first[i]
			if show(u) != show(first) {
				t.Fatalf("the coefficients of %s share memory", want)
			}
		}
		overwrite(first)
		if show(e) != before {
			t.Fatalf("the polynomial of %s is in its memory", before)
		}
		if again, e := checker.Probability(pqr, e); show(again) != want || e != code {
			t.Fatalf("the second result is %s, not %s", show(again), want)
		}
	}
	p := parse(t, "param p; param q; var x: bool; weight p * q; return x;")
	info, _ := checker.Check(p)
	info.Params = info.Params[:cap(info.Params)]
	for i := range info.Params {
		info.Params[i] = 9
	}
	if again, e := checker.Check(p); e != api.OK || !slices.Equal(again.Params, []int{0, 1}) {
		t.Error("the second Info is", again, e)
	}
}

// The names belong to the caller, who may overwrite them after the call.
func TestNamesAreNotKept(t *testing.T) {
	memory := []byte("name")
	name := unsafe.String(&memory[0], len(memory))
	program := api.Program{Vars: []api.Decl{{Name: name, Type: api.Type{Kind: api.TypeBool}}}, Result: "name"}
	params := []string{name}
	for _, v := range []struct {
		text string
		want api.Errno
	}{{"name", api.OK}, {"nano", api.ErrName}, {"name", api.OK}} {
		copy(memory, v.text)
		checkError(t, program, v.want)
		if _, e := checker.Probability(params, variable("name")); e != v.want {
			t.Error("Probability is", e, "with the name", name)
		}
	}
}

func TestParallelCalls(t *testing.T) {
	m := newMaker(311)
	var programs []api.Program
	for range 50 {
		p := m.program()
		if m.often(2) {
			m.damage(&p)
		}
		programs = append(programs, p)
	}
	results := func() string {
		s := ""
		for _, p := range programs {
			info, e := checker.Check(p)
			s += show(info) + show(e)
		}
		return s
	}
	want := results()
	got := make(chan string)
	for range 8 {
		go func() { got <- results() }()
	}
	for range 8 {
		if s := <-got; s != want {
			t.Errorf("the results are %s, not %s", s, want)
		}
	}
}
