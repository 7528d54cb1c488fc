package value_test

import (
	"math/rand/v2"
	"slices"
	"strconv"
	"testing"

	"exactppl/api"
	"exactppl/types"
	"exactppl/value"
)

// The functions against the definitions of the document, for random types, for random values of them, and for values that were damaged at one place or two.

// randomType returns a valid type whose depth is at most the given one. Few types have many values.
func randomType(r *rand.Rand, depth int) api.Type {
	switch kind := r.IntN(8); {
	case depth > 1 && kind < 4:
		elements := make([]api.Type, 2+r.IntN(api.MaxElems-1))
		for i := range elements {
			elements[i] = randomType(r, depth-1-r.IntN(2))
		}
		return tuple(elements...)
	case depth > 1 && kind < 5:
		return list(1+r.IntN(api.MaxList), randomType(r, 1))
	case kind == 5:
		return truth
	}
	low := r.IntN(7) - 3
	return integer(low, low+r.IntN(3))
}

// validType returns a random type that is not too wide.
func validType(r *rand.Rand) api.Type {
	for {
		if t := randomType(r, 1+r.IntN(4)); types.Validate(t) == api.OK {
			return t
		}
	}
}

// elementTypes returns the types of n elements of t.
func elementTypes(t api.Type, n int) []api.Type {
	if t.Kind == api.TypeList {
		return slices.Repeat(t.Elems, n)
	}
	return t.Elems
}

// randomValue returns a value of t.
func randomValue(r *rand.Rand, t api.Type) api.Value {
	switch t.Kind {
	case api.TypeBool:
		return number(r.IntN(2))
	case api.TypeInt:
		return number(t.Low + r.IntN(t.High-t.Low+1))
	case api.TypeNat:
		return number(r.Int())
	}
	var v api.Value
	for _, element := range elementTypes(t, r.IntN(t.Max+1)) {
		v.Elems = append(v.Elems, randomValue(r, element))
	}
	return v
}

// nodes returns v and all values in it.
func nodes(v *api.Value) []*api.Value {
	l := []*api.Value{v}
	for i := range v.Elems {
		l = append(l, nodes(&v.Elems[i])...)
	}
	return l
}

// damage changes one value in v.
func damage(r *rand.Rand, v *api.Value) {
	l := nodes(v)
	u := l[r.IntN(len(l))]
	switch r.IntN(6) {
	case 0:
		u.Int += []int{1, -1, 2001, -2001}[r.IntN(4)]
	case 1:
		u.Elems = append(u.Elems, number(r.IntN(3)))
	case 2:
		u.Elems = u.Elems[:max(0, len(u.Elems)-1)]
	case 3:
		*u = copyOf(*l[r.IntN(len(l))])
	case 4:
		*u = of(*u)
	case 5:
		slices.Reverse(u.Elems)
	}
}

// faultsOf returns all errors of v as a value of t, in the order of the document.
func faultsOf(t api.Type, v api.Value) []api.Errno {
	var l []api.Errno
	unless := func(holds bool, e api.Errno) {
		if !holds {
			l = append(l, e)
		}
	}
	switch t.Kind {
	case api.TypeBool:
		unless(len(v.Elems) == 0, api.ErrForm)
		unless(v.Int == 0 || v.Int == 1, api.ErrRange)
		return l
	case api.TypeInt:
		unless(len(v.Elems) == 0, api.ErrForm)
		unless(v.Int >= t.Low && v.Int <= t.High, api.ErrRange)
		return l
	case api.TypeNat:
		unless(len(v.Elems) == 0, api.ErrForm)
		unless(v.Int >= 0, api.ErrRange)
		return l
	case api.TypeTuple:
		unless(v.Int == 0, api.ErrForm)
		unless(len(v.Elems) == len(t.Elems), api.ErrForm)
	case api.TypeList:
		unless(v.Int == 0, api.ErrForm)
		unless(len(v.Elems) <= t.Max, api.ErrForm)
	}
	if len(l) == 0 {
		for i, element := range elementTypes(t, len(v.Elems)) {
			l = append(l, faultsOf(element, v.Elems[i])...)
		}
	}
	return l
}

func checkOf(t api.Type, v api.Value) api.Errno {
	if l := faultsOf(t, v); len(l) > 0 {
		return l[0]
	}
	return api.OK
}

// nearest returns the zero of a type of one number by a search.
func nearest(t api.Type) int {
	for n := 0; ; n++ {
		for _, m := range []int{n, -n} {
			if checkOf(t, number(m)) == api.OK {
				return m
			}
		}
	}
}

func zeroOf(t api.Type) api.Value {
	switch t.Kind {
	case api.TypeTuple:
		var v api.Value
		for _, element := range t.Elems {
			v.Elems = append(v.Elems, zeroOf(element))
		}
		return v
	case api.TypeList:
		return of()
	}
	return number(nearest(t))
}

func cellsOf(t api.Type, v api.Value) []int {
	switch t.Kind {
	case api.TypeTuple:
		var l []int
		for i, element := range t.Elems {
			l = slices.Concat(l, cellsOf(element, v.Elems[i]))
		}
		return l
	case api.TypeList:
		l := slices.Repeat([]int{nearest(t.Elems[0])}, 1+t.Max)
		l[0] = len(v.Elems)
		for i, element := range v.Elems {
			l[1+i] = element.Int
		}
		return l
	}
	return []int{v.Int}
}

func textOf(t api.Type, v api.Value) string {
	switch t.Kind {
	case api.TypeBool:
		return []string{"false", "true"}[v.Int]
	case api.TypeInt, api.TypeNat:
		return strconv.Itoa(v.Int)
	}
	text := ""
	for i, element := range elementTypes(t, len(v.Elems)) {
		text += ", " + textOf(element, v.Elems[i])
	}
	text = text[min(2, len(text)):]
	if t.Kind == api.TypeTuple {
		return "(" + text + ")"
	}
	return "[" + text + "]"
}

// checkValue compares the functions with the definitions for a value of c.
func checkValue(t *testing.T, c api.Type, v api.Value) {
	t.Helper()
	checkCells(t, c, v, cellsOf(c, v))
	if got, e := value.Format(c, v); got != textOf(c, v) || e != api.OK {
		t.Fatalf("Format(%v, %v) is %q, %d", c, v, got, e)
	}
}

func TestDefinitions(t *testing.T) {
	r := rand.New(rand.NewPCG(71, 72))
	count := map[api.Errno]int{}
	for range 40000 {
		c := validType(r)
		v := randomValue(r, c)
		for range r.IntN(3) {
			damage(r, &v)
		}
		want := checkOf(c, v)
		count[want]++
		checkValueError(t, c, v, want)
		if want == api.OK {
			checkValue(t, c, v)
		}
		if z, e := value.Zero(c); e != api.OK || !same(z, zeroOf(c)) {
			t.Fatalf("Zero(%v) is %v, %d", c, z, e)
		}
		if t.Failed() {
			t.FailNow()
		}
	}
	for _, e := range []api.Errno{api.OK, api.ErrForm, api.ErrRange} {
		if count[e] < 3000 {
			t.Errorf("only %d values with the error %d", count[e], e)
		}
	}
}

// Compare against the cells, for values that are often equal at first.
func TestCompareOfSamples(t *testing.T) {
	r := rand.New(rand.NewPCG(73, 74))
	count := map[int]int{}
	for range 40000 {
		c := validType(r)
		a := randomValue(r, c)
		b := copyOf(a)
		for range r.IntN(3) {
			l := nodes(&b)
			u := l[r.IntN(len(l))]
			u.Int += r.IntN(3) - 1
		}
		if r.IntN(3) == 0 {
			b = randomValue(r, c)
		}
		want, wantError := 0, checkOf(c, b)
		if wantError == api.OK {
			want = slices.Compare(cellsOf(c, a), cellsOf(c, b))
			count[want]++
		}
		if got, e := value.Compare(c, a, b); got != want || e != wantError {
			t.Fatalf("Compare(%v, %v, %v) is %d, %d, not %d, %d", c, a, b, got, e, want, wantError)
		}
		if got, e := value.Compare(c, b, a); got != -want || e != wantError {
			t.Fatalf("Compare(%v, %v, %v) is %d, %d, not %d, %d", c, b, a, got, e, -want, wantError)
		}
	}
	if min(count[-1], count[0], count[1]) < 3000 {
		t.Error("too few pairs", count)
	}
}

// allCells returns all lists of cells in which each cell is in its range, or one less or greater than that.
func allCells(cells []api.Cell) [][]int {
	l := [][]int{nil}
	for _, c := range cells {
		var longer [][]int
		for _, start := range l {
			for n := c.Low - 1; n <= c.High+1; n++ {
				longer = append(longer, append(slices.Clone(start), n))
			}
		}
		l = longer
	}
	return l
}

// All and Unflatten against each other: the lists of cells that have a value are those of the values, in the same order.
func TestAllAgainstCells(t *testing.T) {
	r := rand.New(rand.NewPCG(75, 76))
	tested := 0
	for range 2000 {
		c := validType(r)
		cells, _ := types.Cells(c)
		lists := 1
		for _, cell := range cells {
			lists = min(lists*(cell.High-cell.Low+3), 6000)
		}
		if lists == 6000 {
			continue
		}
		tested++
		all, e := value.All(c)
		if n, _ := types.Size(c); e != api.OK || len(all) != n {
			t.Fatalf("All(%v) has %d values and the error %d", c, len(all), e)
		}
		for _, l := range allCells(cells) {
			v, e := value.Unflatten(c, l)
			if len(all) > 0 && slices.Equal(l, cellsOf(c, all[0])) {
				if e != api.OK || !same(v, all[0]) {
					t.Fatalf("Unflatten(%v, %v) is %v, %d", c, l, v, e)
				}
				all = all[1:]
			} else if e != api.ErrForm || !same(v, api.Value{}) {
				t.Fatalf("Unflatten(%v, %v) is %v, %d", c, l, v, e)
			}
		}
		if len(all) > 0 {
			t.Fatalf("All(%v) has %v in a wrong place", c, all[0])
		}
	}
	if tested < 300 {
		t.Error("too few types", tested)
	}
}

// widen returns t with other ranges.
func widen(r *rand.Rand, t api.Type) api.Type {
	if t.Kind == api.TypeInt {
		return integer(t.Low, t.Low+r.IntN(1<<r.IntN(9)))
	}
	var elements []api.Type
	for _, element := range t.Elems {
		elements = append(elements, widen(r, element))
	}
	t.Elems = elements
	return t
}

// All for types of many values.
func TestAllOfSamples(t *testing.T) {
	r := rand.New(rand.NewPCG(77, 78))
	count := map[api.Errno]int{}
	for range 1000 {
		c := widen(r, validType(r))
		n, _ := types.Size(c)
		want := api.OK
		if n > 4096 || n == 0 {
			want, n = api.ErrLimit, 0
		}
		count[want]++
		all, e := value.All(c)
		if e != want || len(all) != n {
			t.Fatalf("All(%v) has %d values and the error %d, not %d and %d", c, len(all), e, n, want)
		}
		for i, v := range all {
			if checkOf(c, v) != api.OK || i > 0 && slices.Compare(cellsOf(c, all[i-1]), cellsOf(c, v)) >= 0 {
				t.Fatalf("All(%v) has %v at %d", c, v, i)
			}
		}
	}
	if min(count[api.OK], count[api.ErrLimit]) < 200 {
		t.Error("too few types", count)
	}
}

// Different values are written differently.
func TestTextsDiffer(t *testing.T) {
	for _, c := range []api.Type{
		tuple(list(3, truth), list(2, integer(-7, 2)), truth),
		tuple(tuple(integer(-11, 11), integer(-1, 1)), list(4, integer(0, 1)), integer(1, 1)),
	} {
		all, e := value.All(c)
		texts := map[string]bool{}
		for _, v := range all {
			text, _ := value.Format(c, v)
			texts[text] = true
		}
		if e != api.OK || len(texts) != len(all) {
			t.Errorf("%d texts of %d values, %d", len(texts), len(all), e)
		}
	}
}
