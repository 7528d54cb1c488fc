package parser_test

import (
	"cmp"
	"reflect"
	"slices"
	"strings"
	"testing"
	"unsafe"

	"exactppl/parser"
)

// R3, R5 and the rule that results are new memory

const sample = `param p; # c
func g(x: (bool, list[2] int[0, 3]), y: nat) { var z: bool; z := g(x, 1 + 2 * y); if a != b { y := 1; y := 2; } else { observe (a, b).1; } return z; }
query h { var z: bool; repeat 2 { while z { weight 1/2; } } return z; }
var x: bool; var y: real;
x ~ flip(p - 6/3); x ~ table(1; 1/2, 1/4, 1/4); y ~ interval(-1/2, 3/4); x ~ posterior h; x := [a, b[1], push([], len(c)), d ? 1/2 : 0].2 || !e && -f > 2; return x;`

// span is the memory of a slice, up to its capacity.
type span struct{ begin, end uintptr }

// spans returns the memory of all slices in v.
func spans(v reflect.Value) []span {
	var l []span
	switch v.Kind() {
	case reflect.Struct:
		for i := range v.NumField() {
			l = append(l, spans(v.Field(i))...)
		}
	case reflect.Slice:
		if v.Cap() > 0 {
			begin := v.Pointer()
			l = append(l, span{begin, begin + uintptr(v.Cap())*v.Type().Elem().Size()})
		}
		for i := range v.Len() {
			l = append(l, spans(v.Index(i))...)
		}
	}
	return l
}

func TestSlicesAreApart(t *testing.T) {
	first, second := parse(t, sample), parse(t, sample)
	l := append(spans(reflect.ValueOf(first)), spans(reflect.ValueOf(second))...)
	if len(l) < 100 {
		t.Error("only", len(l), "slices")
	}
	slices.SortFunc(l, func(a, b span) int { return cmp.Compare(a.begin, b.begin) })
	for i := range l[1:] {
		if l[i].end > l[i+1].begin {
			t.Error("two slices share memory")
		}
	}
}

// The program outlives the memory of the text, which its owner may use again.
func TestTextIsNotKept(t *testing.T) {
	memory := []byte(sample)
	p := parse(t, unsafe.String(&memory[0], len(memory)))
	if string(memory) != sample {
		t.Error("the text changed to", string(memory))
	}
	for i := range memory {
		memory[i] = '$'
	}
	if want := parse(t, strings.Clone(sample)); show(p) != show(want) {
		t.Errorf("the program is %+v after the text was overwritten", p)
	}
}

func TestParallelCalls(t *testing.T) {
	want := show(parse(t, sample))
	results := make(chan string)
	for range 8 {
		go func() {
			parser.Parse(sample + "(")
			p, _, _ := parser.Parse(sample)
			results <- show(p)
		}()
	}
	for range 8 {
		if got := <-results; got != want {
			t.Errorf("the program is %s, not %s", got, want)
		}
	}
}
