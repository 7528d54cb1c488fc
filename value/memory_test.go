package value_test

import (
	"math/rand/v2"
	"reflect"
	"slices"
	"testing"

	"exactppl/api"
	"exactppl/value"
)

// R3, R4, R5 and the rule that results are new memory

// copyOf returns v in new memory, with nil in the place of every empty list.
func copyOf(v api.Value) api.Value {
	var elements []api.Value
	for _, element := range v.Elems {
		elements = append(elements, copyOf(element))
	}
	v.Elems = elements
	return v
}

// roomy returns v with an empty list in the place of every nil, and with another value in the memory behind all its lists.
func roomy(v api.Value) api.Value {
	elements := make([]api.Value, 0, len(v.Elems)+1)
	for _, element := range v.Elems {
		elements = append(elements, roomy(element))
	}
	elements = append(elements, number(99))
	v.Elems = elements[:len(v.Elems)]
	return v
}

// roomyType does the same with a type.
func roomyType(t api.Type) api.Type {
	elements := make([]api.Type, 0, len(t.Elems)+1)
	for _, element := range t.Elems {
		elements = append(elements, roomyType(element))
	}
	elements = append(elements, wrongKind)
	t.Elems = elements[:len(t.Elems)]
	return t
}

// behind returns all values behind the lists of a roomy value.
func behind(v api.Value) []int {
	l := []int{v.Elems[:len(v.Elems)+1][len(v.Elems)].Int}
	for _, element := range v.Elems {
		l = append(l, behind(element)...)
	}
	return l
}

// typesBehind returns the kinds behind the lists of a roomy type.
func typesBehind(t api.Type) []int {
	l := []int{t.Elems[:len(t.Elems)+1][len(t.Elems)].Kind}
	for _, element := range t.Elems {
		l = append(l, typesBehind(element)...)
	}
	return l
}

// results returns what all functions return, with nil in the place of every empty list.
func results(t api.Type, v, w api.Value) []any {
	zero, zeroError := value.Zero(t)
	cells, cellsError := value.Flatten(t, v)
	back, backError := value.Unflatten(t, cells)
	order, orderError := value.Compare(t, v, w)
	all, allError := value.All(t)
	text, textError := value.Format(t, v)
	return []any{
		copyOf(zero), zeroError, value.Check(t, v), append([]int(nil), cells...), cellsError, copyOf(back), backError,
		order, orderError, copyOf(api.Value{Elems: all}), allError, text, textError,
	}
}

func TestArguments(t *testing.T) {
	r := rand.New(rand.NewPCG(81, 82))
	for range 2000 {
		c := validType(r)
		v, w := randomValue(r, c), randomValue(r, c)
		if r.IntN(3) == 0 {
			damage(r, &v)
		}
		v = copyOf(v)
		want := results(c, v, w)
		fullType, fullV, fullW := roomyType(c), roomy(v), roomy(w)
		if got := results(fullType, fullV, fullW); !reflect.DeepEqual(got, want) {
			t.Fatalf("the results for %v, %v and %v are %v, not %v", c, v, w, got, want)
		}
		if !reflect.DeepEqual(fullType, roomyType(c)) || !reflect.DeepEqual(fullV, roomy(v)) || !reflect.DeepEqual(fullW, roomy(w)) {
			t.Fatalf("%v, %v and %v changed to %v, %v and %v", c, v, w, fullType, fullV, fullW)
		}
		if !slices.Equal(behind(fullV), behind(roomy(v))) || !slices.Equal(behind(fullW), behind(roomy(w))) || !slices.Equal(typesBehind(fullType), typesBehind(roomyType(c))) {
			t.Fatalf("the memory behind %v, %v or %v changed", c, v, w)
		}
	}
}

func TestCellsOfArguments(t *testing.T) {
	r := rand.New(rand.NewPCG(83, 84))
	for range 2000 {
		c := validType(r)
		cells := cellsOf(c, randomValue(r, c))
		cells[r.IntN(len(cells))] += r.IntN(3) - 1
		full := append(slices.Clone(cells), 99)
		v, e := value.Unflatten(c, cells)
		w, f := value.Unflatten(c, full[:len(cells):len(full)])
		if !same(v, w) || e != f || !slices.Equal(full, append(slices.Clone(cells), 99)) {
			t.Fatalf("Unflatten(%v, %v) is %v, %d or %v, %d; the cells are %v", c, cells, v, e, w, f, full)
		}
	}
}

// distinct reports a place of memory that two lists of the values hold, also behind their ends.
func distinct(t *testing.T, l []api.Value) {
	t.Helper()
	seen := map[*api.Value]bool{}
	var visit func(l []api.Value)
	visit = func(l []api.Value) {
		for i := range l {
			visit(l[i].Elems)
		}
		whole := l[:cap(l)]
		for i := range whole {
			if seen[&whole[i]] {
				t.Fatalf("two lists have the value %v in the same place", whole[i])
			}
			seen[&whole[i]] = true
		}
	}
	visit(l)
}

func TestResultsAreNew(t *testing.T) {
	r := rand.New(rand.NewPCG(85, 86))
	for range 500 {
		c := validType(r)
		v := randomValue(r, c)
		l := []api.Value{v}
		for range 2 {
			zero, _ := value.Zero(c)
			back, _ := value.Unflatten(c, cellsOf(c, v))
			all, _ := value.All(c)
			l = append(l, zero, back, api.Value{Elems: all})
		}
		distinct(t, l)
	}
}

func TestCellsAreNew(t *testing.T) {
	c, v := tuple(list(3, truth), truth), of(of(number(1)), number(1))
	first, _ := value.Flatten(c, v)
	for i := range first[:cap(first)] {
		first[:cap(first)][i] = 77
	}
	second, e := value.Flatten(c, v)
	if e != api.OK || !slices.Equal(second, []int{1, 1, 0, 0, 1}) || !same(v, of(of(number(1)), number(1))) {
		t.Errorf("the cells are %v after the first result was overwritten", second)
	}
}
