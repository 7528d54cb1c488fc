package types_test

import (
	"math/rand/v2"
	"reflect"
	"slices"
	"testing"

	"exactppl/api"
	"exactppl/types"
)

// R3, R4, R5 and the rule that results are new memory

// roomy returns t with an empty list in the place of every nil, and with other types in the memory behind all its lists.
func roomy(t api.Type) api.Type {
	elements := make([]api.Type, 0, len(t.Elems)+1)
	for _, element := range t.Elems {
		elements = append(elements, roomy(element))
	}
	elements = append(elements, wrongKind)
	t.Elems = elements[:len(t.Elems)]
	return t
}

// behind reports whether the types behind all lists of a roomy type are still there.
func behind(t api.Type) bool {
	last := t.Elems[:len(t.Elems)+1][len(t.Elems)]
	return types.Equal(last, wrongKind) && !slices.ContainsFunc(t.Elems, func(element api.Type) bool { return !behind(element) })
}

// results returns what all functions return for t.
func results(t api.Type) []any {
	class, classError := types.Class(t)
	cells, cellsError := types.Cells(t)
	size, sizeError := types.Size(t)
	text, textError := types.Format(t)
	return []any{types.Validate(t), types.Equal(t, t), class, classError, slices.Clone(cells), cellsError, size, sizeError, text, textError}
}

func TestArguments(t *testing.T) {
	for _, c := range samples(rand.New(rand.NewPCG(71, 72)), 3000) {
		want := results(copyOf(c))
		full := roomy(c)
		if got := results(full); !reflect.DeepEqual(got, want) {
			t.Fatalf("the results for %v are %v, not %v", c, got, want)
		}
		if !reflect.DeepEqual(full, roomy(c)) || !behind(full) {
			t.Fatalf("%v changed to %v", c, full)
		}
		if !types.Equal(full, copyOf(c)) || !types.Equal(copyOf(c), full) {
			t.Fatalf("%v is not equal to its copy", c)
		}
	}
}

func TestEmptyElements(t *testing.T) {
	none := []api.Type{}
	checkFaults(t, []fault{
		{api.Type{Kind: api.TypeBool, Elems: none}, api.OK},
		{api.Type{Kind: api.TypeInt, Elems: none}, api.OK},
		{api.Type{Kind: api.TypeNat, Elems: none}, api.OK},
		{api.Type{Kind: api.TypeReal, Elems: none}, api.OK},
		{api.Type{Kind: api.TypeTuple, Elems: none}, api.ErrRange},
		{api.Type{Kind: api.TypeList, Max: 1, Elems: none}, api.ErrForm},
	})
	if !types.Equal(api.Type{Elems: none}, api.Type{}) || !types.Equal(api.Type{}, api.Type{Elems: none}) {
		t.Error("an empty list is not equal to nil")
	}
}

func TestCellsAreNew(t *testing.T) {
	c := tuple(list(2, integer(1, 2)), truth)
	first, _ := types.Cells(c)
	first = first[:cap(first)]
	for i := range first {
		first[i] = api.Cell{Kind: 9}
	}
	second, e := types.Cells(c)
	if e != api.OK || !slices.Equal(second, cellsOf(c)) || !types.Equal(c, tuple(list(2, integer(1, 2)), truth)) {
		t.Errorf("the cells are %v after the first result was overwritten", second)
	}
}
