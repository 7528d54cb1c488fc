package printer_test

import (
	"reflect"
	"strings"
	"testing"
	"unsafe"

	"exactppl/api"
	"exactppl/printer"
)

// R3, R4, R5 and the rule that results are new memory

// copyInto makes the first value a copy of the second one in new memory, with so many zeros behind all lists, which are no part of them.
func copyInto(to, from reflect.Value, further int) {
	switch from.Kind() {
	case reflect.Struct:
		for i := range from.NumField() {
			copyInto(to.Field(i), from.Field(i), further)
		}
	case reflect.Slice:
		n := from.Len()
		to.Set(reflect.MakeSlice(from.Type(), n+further, n+further))
		for i := range n {
			copyInto(to.Index(i), from.Index(i), further)
		}
		to.SetLen(n)
	default:
		to.Set(from)
	}
}

// copyOf returns a copy of v in new memory.
func copyOf[T any](v T) T {
	var w T
	copyInto(reflect.ValueOf(&w).Elem(), reflect.ValueOf(v), 0)
	return w
}

// roomy returns a copy of v with an empty list in the place of every nil, and with zeros behind all lists.
func roomy[T any](v T) T {
	var w T
	copyInto(reflect.ValueOf(&w).Elem(), reflect.ValueOf(v), 2)
	return w
}

// isRoomy reports whether zeros are still behind all lists.
func isRoomy(v reflect.Value) bool {
	switch v.Kind() {
	case reflect.Struct:
		for i := range v.NumField() {
			if !isRoomy(v.Field(i)) {
				return false
			}
		}
	case reflect.Slice:
		n := v.Len()
		for i := range v.Cap() {
			element := v.Slice(0, v.Cap()).Index(i)
			if i < n && !isRoomy(element) || i >= n && !element.IsZero() {
				return false
			}
		}
	}
	return true
}

func TestArguments(t *testing.T) {
	m := newMaker(215)
	for range 1500 {
		p := m.program()
		if m.often(3) {
			p = copyOf(p)
			m.damage(&p)
		}
		want, code := printer.Print(p)
		full := roomy(p)
		if s, e := printer.Print(full); s != want || e != code {
			t.Fatalf("Print(%.500s) is %d, %s, not %d, %s", show(p), e, s, code, want)
		}
		if !reflect.DeepEqual(full, roomy(p)) || !isRoomy(reflect.ValueOf(full)) {
			t.Fatalf("%.500s changed", show(p))
		}
	}
	for range 1500 {
		e := m.expr(4)
		want, code := printer.Expr(e)
		full := roomy(e)
		if s, again := printer.Expr(full); s != want || again != code || !reflect.DeepEqual(full, roomy(e)) || !isRoomy(reflect.ValueOf(full)) {
			t.Fatalf("Expr(%.500s) is %d, %s, not %d, %s, or has changed it", show(e), again, s, code, want)
		}
	}
}

// The text outlives the memory of the names, which their owner may use again.
func TestTextIsNew(t *testing.T) {
	memory := []byte("name")
	name := unsafe.String(&memory[0], len(memory))
	text, _ := printer.Expr(variable(name))
	program, _ := printer.Print(api.Program{Params: []string{name}, Body: []api.Stmt{{Kind: api.StObserve, Expr: variable(name)}}, Result: name})
	copy(memory, "else")
	if text != "name" || program != "param name;\nobserve name;\nreturn name;\n" {
		t.Error("the texts are", text, program, "after the name was overwritten")
	}
	if s, e := printer.Expr(variable(name)); e != api.ErrForm {
		t.Error("the name", name, "has the text", s)
	}
}

func TestParallelCalls(t *testing.T) {
	m := newMaker(217)
	p, e := m.program(), m.expr(5)
	results := func() string {
		first, _ := printer.Print(p)
		second, _ := printer.Expr(e)
		return first + second
	}
	want := results()
	if !strings.Contains(want, "return") {
		t.Error("the program has no text", show(p))
	}
	got := make(chan string)
	for range 8 {
		go func() { got <- results() }()
	}
	for range 8 {
		if s := <-got; s != want {
			t.Errorf("the texts are %s, not %s", s, want)
		}
	}
}
