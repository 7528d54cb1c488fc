package types_test

import (
	"math"
	"slices"
	"testing"

	"exactppl/api"
	"exactppl/types"
)

var (
	truth     = api.Type{Kind: api.TypeBool}
	natural   = api.Type{Kind: api.TypeNat}
	realType  = api.Type{Kind: api.TypeReal}
	wrongKind = api.Type{Kind: 7}
)

func integer(low, high int) api.Type { return api.Type{Kind: api.TypeInt, Low: low, High: high} }

// numbers returns an integer type of n values.
func numbers(n int) api.Type { return integer(-1000, n-1001) }

func tuple(elements ...api.Type) api.Type { return api.Type{Kind: api.TypeTuple, Elems: elements} }

func list(limit int, elements ...api.Type) api.Type {
	return api.Type{Kind: api.TypeList, Max: limit, Elems: elements}
}

// deep returns t in so many types of the kind around it, which have no other elements.
func deep(n, kind int, t api.Type) api.Type {
	for range n {
		t = api.Type{Kind: kind, Elems: []api.Type{t}}
	}
	return t
}

// pairs returns t in so many pairs around it.
func pairs(n int, t api.Type) api.Type {
	for range n {
		t = tuple(truth, t)
	}
	return t
}

// checkError reports an error of any function that is not want, and a result beside an error.
func checkError(t *testing.T, c api.Type, want api.Errno) {
	t.Helper()
	if e := types.Validate(c); e != want {
		t.Errorf("Validate(%v) is %d, not %d", c, e, want)
	}
	class, e := types.Class(c)
	if e != want || e != api.OK && class != 0 {
		t.Errorf("Class(%v) is %d, %d, not %d", c, class, e, want)
	}
	cells, e := types.Cells(c)
	if e != want || e != api.OK && len(cells) != 0 {
		t.Errorf("Cells(%v) is %v, %d, not %d", c, cells, e, want)
	}
	text, e := types.Format(c)
	if e != want || e != api.OK && text != "" {
		t.Errorf("Format(%v) is %q, %d, not %d", c, text, e, want)
	}
	size, e := types.Size(c)
	if want != api.OK && e != want || e != api.OK && size != 0 {
		t.Errorf("Size(%v) is %d, %d, not %d", c, size, e, want)
	}
}

// A fault is a type with the error that Validate returns for it.
type fault struct {
	t    api.Type
	want api.Errno
}

func checkFaults(t *testing.T, l []fault) {
	t.Helper()
	for _, c := range l {
		checkError(t, c.t, c.want)
	}
}

// P6.1

func TestKinds(t *testing.T) {
	checkFaults(t, []fault{
		{truth, api.OK},
		{natural, api.OK},
		{realType, api.OK},
		{api.Type{}, api.ErrKind},
		{wrongKind, api.ErrKind},
		{api.Type{Kind: -1}, api.ErrKind},
		{api.Type{Kind: math.MaxInt}, api.ErrKind},
		{api.Type{Kind: math.MinInt}, api.ErrKind},
		{api.Type{Kind: 7, Low: 1, Max: 1, Elems: []api.Type{{}}}, api.ErrKind}, // before ErrForm
		{api.Type{Low: 1}, api.ErrKind},
	})
}

func TestUnusedFields(t *testing.T) {
	for kind := api.TypeBool; kind <= api.TypeList; kind++ {
		used := api.Type{Kind: kind}
		switch kind {
		case api.TypeTuple:
			used = tuple(truth, truth)
		case api.TypeList:
			used = list(1, truth)
		}
		checkError(t, used, api.OK)
		for i, change := range []func(*api.Type){
			func(t *api.Type) { t.Low = -1 },
			func(t *api.Type) { t.High = 1 },
			func(t *api.Type) { t.Low, t.High = math.MinInt, math.MaxInt },
			func(t *api.Type) { t.Max = 1 },
			func(t *api.Type) { t.Max = -1 },
			func(t *api.Type) { t.Elems = []api.Type{truth, truth} },
		} {
			c := used
			change(&c)
			want := api.ErrForm
			switch {
			case kind == api.TypeInt && i == 2:
				want = api.ErrRange
			case kind == api.TypeInt && i < 2, kind == api.TypeTuple && i == 5, kind == api.TypeList && i == 3:
				want = api.OK
			case kind == api.TypeList && i == 4:
				want = api.ErrRange
			}
			checkError(t, c, want)
		}
	}
	checkFaults(t, []fault{
		{api.Type{Kind: api.TypeInt, Low: 2, High: 1, Max: 1}, api.ErrForm}, // before ErrRange
		{api.Type{Kind: api.TypeInt, Elems: []api.Type{{}}}, api.ErrForm},   // and before the errors of the elements
		{api.Type{Kind: api.TypeBool, Elems: []api.Type{{}}}, api.ErrForm},
		{api.Type{Kind: api.TypeTuple, High: 1}, api.ErrForm},
		{api.Type{Kind: api.TypeList, High: 1, Max: 9}, api.ErrForm},
	})
}

func TestIntegers(t *testing.T) {
	checkFaults(t, []fault{
		{integer(-1000, 1000), api.OK},
		{integer(-1000, -1000), api.OK},
		{integer(1000, 1000), api.OK},
		{integer(0, 0), api.OK},
		{integer(-1001, 1000), api.ErrRange},
		{integer(-1000, 1001), api.ErrRange},
		{integer(-1001, -1001), api.ErrRange},
		{integer(1001, 1001), api.ErrRange},
		{integer(1, 0), api.ErrRange},
		{integer(1000, -1000), api.ErrRange},
		{integer(math.MinInt, 0), api.ErrRange},
		{integer(0, math.MaxInt), api.ErrRange},
		{integer(math.MaxInt, math.MinInt), api.ErrRange},
	})
}

func TestTuples(t *testing.T) {
	checkFaults(t, []fault{
		{tuple(), api.ErrRange},
		{tuple(truth), api.ErrRange},
		{tuple(truth, truth), api.OK},
		{tuple(truth, truth, truth, truth), api.OK},
		{tuple(truth, truth, truth, truth, truth), api.ErrRange},
		{tuple(wrongKind), api.ErrRange}, // before the errors of the elements
		{tuple(wrongKind, truth, truth, truth, truth), api.ErrRange},
		{tuple(natural, truth), api.ErrClass},
		{tuple(truth, realType), api.ErrClass},
		{tuple(natural, wrongKind), api.ErrClass}, // an element's error before the next element
		{tuple(wrongKind, natural), api.ErrKind},
		{tuple(tuple(truth, natural), wrongKind), api.ErrClass},
		{tuple(integer(1, 0), wrongKind), api.ErrRange},
		{tuple(truth, truth, truth, integer(1, 0)), api.ErrRange},
		{tuple(api.Type{Kind: api.TypeNat, Max: 1}, truth), api.ErrForm}, // an element's error before its class
		{tuple(list(1, truth), tuple(truth, list(1, natural))), api.ErrClass},
		{tuple(list(1, truth), tuple(truth, list(4, integer(0, 1)))), api.OK},
	})
}

func TestLists(t *testing.T) {
	checkFaults(t, []fault{
		{list(1, truth), api.OK},
		{list(4, truth), api.OK},
		{list(4, integer(-1000, 1000)), api.OK},
		{list(0, truth), api.ErrRange},
		{list(-1, truth), api.ErrRange},
		{list(5, truth), api.ErrRange},
		{list(math.MaxInt, truth), api.ErrRange},
		{list(5), api.ErrRange}, // before ErrForm
		{list(1), api.ErrForm},
		{list(1, truth, truth), api.ErrForm},
		{list(1, wrongKind, wrongKind), api.ErrForm}, // before the error of the element
		{list(1, wrongKind), api.ErrKind},
		{list(1, integer(1, 0)), api.ErrRange},
		{list(1, tuple(truth)), api.ErrRange}, // an element's error before its class
		{list(1, list(1)), api.ErrForm},
		{list(1, api.Type{Kind: api.TypeReal, High: 1}), api.ErrForm},
		{list(1, natural), api.ErrClass},
		{list(1, realType), api.ErrClass},
		{list(1, tuple(truth, truth)), api.ErrClass},
		{list(1, list(1, truth)), api.ErrClass},
	})
}

func TestDepth(t *testing.T) {
	checkFaults(t, []fault{
		{pairs(9, truth), api.OK},
		{pairs(10, truth), api.ErrLimit},
		{pairs(8, list(1, truth)), api.OK},
		{pairs(9, list(1, truth)), api.ErrLimit},
		{tuple(pairs(8, truth), pairs(8, truth)), api.OK},
		{tuple(pairs(9, truth), truth), api.ErrLimit},
		{tuple(truth, truth, truth, pairs(9, truth)), api.ErrLimit},
		// The depth comes before every error of the type, for all kinds.
		{deep(10, api.TypeTuple, truth), api.ErrLimit},
		{deep(9, api.TypeTuple, truth), api.ErrRange},
		{deep(10, api.TypeList, truth), api.ErrLimit},
		{deep(9, api.TypeList, truth), api.ErrRange},
		{deep(10, api.TypeBool, truth), api.ErrLimit},
		{deep(9, api.TypeBool, truth), api.ErrForm},
		{deep(10, 0, truth), api.ErrLimit},
		{deep(9, 7, truth), api.ErrKind},
		{tuple(wrongKind, pairs(9, truth)), api.ErrLimit},
		{tuple(truth, truth, truth, truth, pairs(9, truth)), api.ErrLimit},
		{list(0, truth, pairs(9, truth)), api.ErrLimit},
		{deep(50000, api.TypeTuple, truth), api.ErrLimit},
	})
}

// A list of elements that contains itself has no greatest depth.
func TestEndlessDepth(t *testing.T) {
	elements := make([]api.Type, 4)
	for i := range elements {
		elements[i] = tuple(elements...)
	}
	for _, kind := range []int{0, api.TypeBool, api.TypeTuple, api.TypeList} {
		checkError(t, api.Type{Kind: kind, Elems: elements}, api.ErrLimit)
	}
}

func TestWidth(t *testing.T) {
	four, five := tuple(truth, truth, truth, truth), list(4, truth)
	checkFaults(t, []fault{
		{tuple(five, five, five, list(4, integer(0, 1))), api.OK},                      // 20
		{tuple(tuple(five, five), five, five, four), api.OK},                           // 24
		{tuple(tuple(five, five), five, five, five), api.ErrLimit},                     // 25
		{tuple(tuple(five, five, five), five, four), api.OK},                           // 24
		{tuple(tuple(five, five, five), five, four, truth), api.ErrLimit},              // 25
		{tuple(tuple(four, four, four), tuple(four, four), four), api.OK},              // 24
		{tuple(tuple(four, four, four), tuple(four, four), four, truth), api.ErrLimit}, // 25
		{tuple(tuple(five, five), five, five, tuple(five, realType)), api.ErrClass},    // the error comes before the width
		{tuple(tuple(five, five), five, five, tuple(five, integer(1, 0))), api.ErrRange},
	})
	wide := truth
	for range 9 {
		wide = tuple(wide, wide, wide, wide)
	}
	checkError(t, wide, api.ErrLimit)
}

// P6.2

func TestEqual(t *testing.T) {
	l := []api.Type{
		truth, natural, realType, wrongKind, {}, {Kind: math.MinInt}, {Kind: math.MaxInt},
		integer(0, 1), integer(0, 2), integer(-1, 1), integer(1, 0), integer(2, 0), integer(math.MinInt, math.MaxInt),
		{Kind: api.TypeBool, Low: 1}, {Kind: api.TypeBool, High: 1}, {Kind: api.TypeBool, Max: 1},
		tuple(), tuple(truth), tuple(truth, truth), tuple(truth, natural), tuple(natural, truth), tuple(truth, truth, truth),
		tuple(truth, tuple(truth, truth)), tuple(tuple(truth, truth), truth),
		list(1), list(1, truth), list(2, truth), list(1, integer(0, 1)), list(1, integer(0, 2)), list(1, truth, truth),
		{Kind: api.TypeBool, Elems: []api.Type{truth}}, {Kind: api.TypeList, Elems: []api.Type{truth}},
		pairs(9, truth), pairs(9, natural), pairs(10, natural), deep(20, 0, wrongKind), deep(20, 0, truth),
	}
	for i, a := range l {
		for j, b := range l {
			if got := types.Equal(a, copyOf(b)); got != (i == j) {
				t.Errorf("Equal(%v, %v) is %t", a, b, got)
			}
		}
	}
}

func TestEqualOfDeepTypes(t *testing.T) {
	a, b := deep(50000, api.TypeTuple, truth), deep(50000, api.TypeTuple, truth)
	if !types.Equal(a, b) || types.Equal(a, deep(50000, api.TypeTuple, natural)) || types.Equal(a, deep(49999, api.TypeTuple, truth)) {
		t.Error("deep types")
	}
}

func TestClass(t *testing.T) {
	for _, c := range []struct {
		t    api.Type
		want int
	}{
		{truth, api.ClassFinite},
		{integer(-1, 1), api.ClassFinite},
		{natural, api.ClassCountable},
		{realType, api.ClassContinuous},
		{tuple(truth, integer(0, 9)), api.ClassFinite},
		{list(3, truth), api.ClassFinite},
		{list(3, integer(0, 9)), api.ClassFinite},
	} {
		if got, e := types.Class(c.t); got != c.want || e != api.OK {
			t.Errorf("Class(%v) is %d, %d, not %d", c.t, got, e, c.want)
		}
	}
}

// P6.3

func TestCells(t *testing.T) {
	flag := api.Cell{Kind: api.TypeBool, High: 1}
	number := func(low, high int) api.Cell { return api.Cell{Kind: api.TypeInt, Low: low, High: high} }
	for _, c := range []struct {
		t    api.Type
		want []api.Cell
	}{
		{truth, []api.Cell{flag}},
		{integer(-3, 5), []api.Cell{number(-3, 5)}},
		{natural, []api.Cell{{Kind: api.TypeNat}}},
		{realType, []api.Cell{{Kind: api.TypeReal}}},
		{list(2, truth), []api.Cell{number(0, 2), flag, flag}},
		{list(1, integer(7, 7)), []api.Cell{number(0, 1), number(7, 7)}},
		{tuple(integer(1, 2), truth), []api.Cell{number(1, 2), flag}},
		{tuple(tuple(truth, integer(1, 2)), list(1, integer(3, 4)), truth), []api.Cell{flag, number(1, 2), number(0, 1), number(3, 4), flag}},
	} {
		if got, e := types.Cells(c.t); !slices.Equal(got, c.want) || e != api.OK {
			t.Errorf("Cells(%v) is %v, %d, not %v", c.t, got, e, c.want)
		}
	}
}

func TestSize(t *testing.T) {
	thousand := numbers(1024)
	for _, c := range []struct {
		t    api.Type
		want int
		e    api.Errno
	}{
		{truth, 2, api.OK},
		{integer(5, 5), 1, api.OK},
		{integer(-1000, 1000), 2001, api.OK},
		{natural, 0, api.ErrClass},
		{realType, 0, api.ErrClass},
		{tuple(truth, integer(-3, 5)), 18, api.OK},
		{list(2, truth), 7, api.OK},
		{list(4, truth), 31, api.OK},
		{list(4, integer(0, 0)), 5, api.OK},
		{list(3, integer(0, 2)), 40, api.OK},
		{tuple(list(1, truth), list(2, integer(0, 2)), tuple(truth, truth)), 156, api.OK},
		// about MaxArith
		{tuple(thousand, thousand, thousand), api.MaxArith, api.OK},
		{tuple(thousand, thousand, thousand, integer(1, 1)), api.MaxArith, api.OK},
		{tuple(numbers(1025), numbers(793), numbers(1321)), 0, api.ErrLimit}, // MaxArith + 1
		{tuple(thousand, thousand, thousand, truth), 0, api.ErrLimit},
		{list(3, numbers(1023)), 1071646720, api.OK},
		{list(3, thousand), 0, api.ErrLimit},
		{list(4, numbers(180)), 1055624581, api.OK},
		{list(4, numbers(181)), 0, api.ErrLimit},
		{list(2, numbers(2001)), 4006003, api.OK},
		// numbers that an int does not hold
		{list(4, numbers(2001)), 0, api.ErrLimit},
		{tuple(list(4, numbers(2001)), list(4, numbers(2001)), list(4, numbers(2001)), list(4, numbers(2001))), 0, api.ErrLimit},
		{tuple(tuple(thousand, thousand, thousand, thousand), tuple(thousand, thousand, thousand)), 0, api.ErrLimit}, // 0 modulo 2^64
		{tuple(thousand, tuple(thousand, thousand, thousand, thousand), integer(0, 0)), 0, api.ErrLimit},
		// the error of Validate comes first
		{tuple(truth, natural, wrongKind), 0, api.ErrClass},
		{api.Type{Kind: api.TypeNat, Max: 1}, 0, api.ErrForm},
		{pairs(10, thousand), 0, api.ErrLimit},
	} {
		if got, e := types.Size(c.t); got != c.want || e != c.e {
			t.Errorf("Size(%v) is %d, %d, not %d, %d", c.t, got, e, c.want, c.e)
		}
	}
}

// P6.4

func TestFormat(t *testing.T) {
	for _, c := range []struct {
		t    api.Type
		want string
	}{
		{truth, "bool"},
		{natural, "nat"},
		{realType, "real"},
		{integer(0, 0), "int[0, 0]"},
		{integer(-1000, -7), "int[-1000, -7]"},
		{integer(-3, 1000), "int[-3, 1000]"},
		{list(2, truth), "list[2] bool"},
		{list(4, integer(-1, 1)), "list[4] int[-1, 1]"},
		{tuple(truth, truth), "(bool, bool)"},
		{tuple(truth, integer(1, 2), list(3, truth), tuple(truth, integer(0, 1))), "(bool, int[1, 2], list[3] bool, (bool, int[0, 1]))"},
		{pairs(9, truth), "(bool, (bool, (bool, (bool, (bool, (bool, (bool, (bool, (bool, bool)))))))))"},
	} {
		if got, e := types.Format(c.t); got != c.want || e != api.OK {
			t.Errorf("Format(%v) is %q, %d, not %q", c.t, got, e, c.want)
		}
	}
}
