package types_test

import (
	"math/big"
	"math/rand/v2"
	"reflect"
	"slices"
	"strconv"
	"testing"

	"exactppl/api"
	"exactppl/types"
)

// The functions against the definitions of the document, for random types and for types that were damaged at one place or two.

// copyOf returns t in new memory, with nil in the place of every empty list.
func copyOf(t api.Type) api.Type {
	var elements []api.Type
	for _, element := range t.Elems {
		elements = append(elements, copyOf(element))
	}
	t.Elems = elements
	return t
}

// random returns a type without an error whose depth is at most the given one.
func random(r *rand.Rand, depth int) api.Type {
	switch kind := r.IntN(8); {
	case depth > 1 && kind < 4:
		elements := make([]api.Type, 2+r.IntN(api.MaxElems-1))
		for i := range elements {
			elements[i] = random(r, depth-1-r.IntN(2))
		}
		return tuple(elements...)
	case depth > 1 && kind < 5:
		return list(1+r.IntN(api.MaxList), random(r, 1))
	case kind == 5:
		return truth
	}
	low := r.IntN(7) - 3
	return integer(low, low+r.IntN(4))
}

// nodes returns t and all types in it.
func nodes(t *api.Type) []*api.Type {
	l := []*api.Type{t}
	for i := range t.Elems {
		l = append(l, nodes(&t.Elems[i])...)
	}
	return l
}

// damage changes one type in t.
func damage(r *rand.Rand, t *api.Type) {
	l := nodes(t)
	u := l[r.IntN(len(l))]
	switch r.IntN(9) {
	case 0:
		u.Kind = r.IntN(8)
	case 1:
		u.Low += []int{1, -1, 1001, -1001}[r.IntN(4)]
	case 2:
		u.High += []int{1, -1, 1001, -1001}[r.IntN(4)]
	case 3:
		u.Max += r.IntN(7) - 3
	case 4:
		u.Elems = nil
	case 5:
		u.Elems = append(u.Elems, random(r, 2))
	case 6:
		*u = []api.Type{natural, realType}[r.IntN(2)]
	case 7:
		*u = pairs(r.IntN(10), *u)
	case 8:
		*u = random(r, 3)
	}
}

// samples returns valid and damaged types.
func samples(r *rand.Rand, n int) []api.Type {
	l := []api.Type{truth, natural, realType}
	for range n {
		t := random(r, 1+r.IntN(4))
		for range r.IntN(3) {
			damage(r, &t)
		}
		l = append(l, t)
	}
	return l
}

func depthOf(t api.Type) int {
	greatest := 0
	for _, element := range t.Elems {
		greatest = max(greatest, depthOf(element))
	}
	return 1 + greatest
}

// faultsOf returns all errors of the type t, in the order of the document.
func faultsOf(t api.Type) []api.Errno {
	var l []api.Errno
	unless := func(holds bool, e api.Errno) {
		if !holds {
			l = append(l, e)
		}
	}
	isInt, isTuple, isList := t.Kind == api.TypeInt, t.Kind == api.TypeTuple, t.Kind == api.TypeList
	unless(t.Kind >= 1 && t.Kind <= 6, api.ErrKind)
	unless(isInt || t.Low == 0 && t.High == 0, api.ErrForm)
	unless(isList || t.Max == 0, api.ErrForm)
	unless(isTuple || isList || len(t.Elems) == 0, api.ErrForm)
	unless(!isInt || t.Low >= -1000 && t.Low <= t.High && t.High <= 1000, api.ErrRange)
	unless(!isTuple || len(t.Elems) >= 2 && len(t.Elems) <= 4, api.ErrRange)
	unless(!isList || t.Max >= 1 && t.Max <= 4, api.ErrRange)
	unless(!isList || len(t.Elems) == 1, api.ErrForm)
	for _, element := range t.Elems {
		l = append(l, faultsOf(element)...)
		if isTuple {
			unless(element.Kind != api.TypeNat && element.Kind != api.TypeReal, api.ErrClass)
		} else {
			unless(element.Kind == api.TypeBool || element.Kind == api.TypeInt, api.ErrClass)
		}
	}
	return l
}

func cellsOf(t api.Type) []api.Cell {
	switch t.Kind {
	case api.TypeBool:
		return []api.Cell{{Kind: api.TypeBool, Low: 0, High: 1}}
	case api.TypeInt:
		return []api.Cell{{Kind: api.TypeInt, Low: t.Low, High: t.High}}
	case api.TypeNat:
		return []api.Cell{{Kind: api.TypeNat}}
	case api.TypeReal:
		return []api.Cell{{Kind: api.TypeReal}}
	case api.TypeTuple:
		var l [][]api.Cell
		for _, element := range t.Elems {
			l = append(l, cellsOf(element))
		}
		return slices.Concat(l...)
	}
	length := []api.Cell{{Kind: api.TypeInt, Low: 0, High: t.Max}}
	return slices.Concat(length, slices.Repeat(cellsOf(t.Elems[0]), t.Max))
}

func sizeOf(t api.Type) *big.Int {
	switch t.Kind {
	case api.TypeBool:
		return big.NewInt(2)
	case api.TypeInt:
		return big.NewInt(int64(t.High) - int64(t.Low) + 1)
	case api.TypeTuple:
		n := big.NewInt(1)
		for _, element := range t.Elems {
			n.Mul(n, sizeOf(element))
		}
		return n
	}
	sum, element := new(big.Int), sizeOf(t.Elems[0])
	for k := range t.Max + 1 {
		sum.Add(sum, new(big.Int).Exp(element, big.NewInt(int64(k)), nil))
	}
	return sum
}

func validateOf(t api.Type) api.Errno {
	if depthOf(t) > api.MaxDepth {
		return api.ErrLimit
	}
	if l := faultsOf(t); len(l) > 0 {
		return l[0]
	}
	if len(cellsOf(t)) > api.MaxWidth {
		return api.ErrLimit
	}
	return api.OK
}

func checkSize(t *testing.T, c api.Type) {
	t.Helper()
	got, e := types.Size(c)
	want, wantError := 0, api.OK
	if c.Kind == api.TypeNat || c.Kind == api.TypeReal {
		wantError = api.ErrClass
	} else if n := sizeOf(c); n.Cmp(big.NewInt(1<<30)) > 0 {
		wantError = api.ErrLimit
	} else {
		want = int(n.Int64())
	}
	if got != want || e != wantError {
		t.Fatalf("Size(%v) is %d, %d, not %d, %d", c, got, e, want, wantError)
	}
}

func TestDefinitions(t *testing.T) {
	count := map[api.Errno]int{}
	for _, c := range samples(rand.New(rand.NewPCG(61, 62)), 60000) {
		want := validateOf(c)
		count[want]++
		checkError(t, c, want)
		if want != api.OK {
			continue
		}
		cells, _ := types.Cells(c)
		if !slices.Equal(cells, cellsOf(c)) {
			t.Fatalf("Cells(%v) is %v", c, cells)
		}
		checkSize(t, c)
	}
	for _, e := range []api.Errno{api.OK, api.ErrRange, api.ErrForm, api.ErrClass, api.ErrLimit, api.ErrKind} {
		if count[e] < 500 {
			t.Errorf("only %d types with the error %d", count[e], e)
		}
	}
}

// Sizes beyond MaxArith occur among types of wide ranges only.
func TestSizesOfWideRanges(t *testing.T) {
	r := rand.New(rand.NewPCG(63, 64))
	count := map[bool]int{}
	for range 20000 {
		c := random(r, 3)
		for _, u := range nodes(&c) {
			if u.Kind == api.TypeInt {
				*u = numbers(1 + r.IntN(1<<r.IntN(11)))
			}
		}
		if types.Validate(c) == api.OK {
			checkSize(t, c)
			_, e := types.Size(c)
			count[e == api.OK]++
		}
	}
	if count[true] < 1000 || count[false] < 1000 {
		t.Error("too few types", count)
	}
}

// valuesOf returns a text for each value of t.
func valuesOf(t api.Type) []string {
	switch t.Kind {
	case api.TypeBool:
		return []string{"false", "true"}
	case api.TypeInt:
		var l []string
		for n := t.Low; n <= t.High; n++ {
			l = append(l, strconv.Itoa(n))
		}
		return l
	case api.TypeTuple:
		return sequencesOf(t.Elems)
	}
	var l []string
	for n := range t.Max + 1 {
		l = append(l, sequencesOf(slices.Repeat(t.Elems, n))...)
	}
	return l
}

// sequencesOf returns a text for each sequence of values of the types.
func sequencesOf(l []api.Type) []string {
	texts := []string{"("}
	for _, t := range l {
		var longer []string
		for _, text := range texts {
			for _, value := range valuesOf(t) {
				longer = append(longer, text+value+";")
			}
		}
		texts = longer
	}
	for i := range texts {
		texts[i] += ")"
	}
	return texts
}

// The size is the number of values that are different.
func TestSizeCountsValues(t *testing.T) {
	r := rand.New(rand.NewPCG(65, 66))
	for range 3000 {
		c := random(r, 3)
		n, e := types.Size(c)
		if e != api.OK || n > 2000 {
			continue
		}
		values := map[string]bool{}
		for _, v := range valuesOf(c) {
			values[v] = true
		}
		if len(values) != n {
			t.Fatalf("Size(%v) is %d, not %d", c, n, len(values))
		}
	}
}

// Equal against the comparison of copies, for types of all forms and for those with one change.
func TestEqualOfSamples(t *testing.T) {
	r := rand.New(rand.NewPCG(67, 68))
	l := samples(r, 400)
	check := func(a, b api.Type) {
		want := reflect.DeepEqual(copyOf(a), copyOf(b))
		if types.Equal(a, b) != want || types.Equal(b, a) != want {
			t.Fatalf("Equal(%v, %v) is not %t", a, b, want)
		}
	}
	for _, a := range l {
		for _, b := range l[:100] {
			check(a, b)
		}
		for range 50 {
			b := copyOf(a)
			damage(r, &b)
			check(a, b)
		}
	}
}

// Different valid types are written differently.
func TestTextsDiffer(t *testing.T) {
	texts := map[string]api.Type{}
	for _, c := range samples(rand.New(rand.NewPCG(69, 70)), 20000) {
		text, e := types.Format(c)
		if e != api.OK {
			continue
		}
		if other, found := texts[text]; found && !types.Equal(c, other) {
			t.Fatalf("%v and %v are both %q", c, other, text)
		}
		texts[text] = c
	}
}
