package value_test

import (
	"math"
	"slices"
	"testing"

	"exactppl/api"
	"exactppl/types"
	"exactppl/value"
)

var (
	truth     = api.Type{Kind: api.TypeBool}
	natural   = api.Type{Kind: api.TypeNat}
	realType  = api.Type{Kind: api.TypeReal}
	wrongKind = api.Type{Kind: 7}
)

func integer(low, high int) api.Type { return api.Type{Kind: api.TypeInt, Low: low, High: high} }

func tuple(elements ...api.Type) api.Type { return api.Type{Kind: api.TypeTuple, Elems: elements} }

func list(limit int, elements ...api.Type) api.Type {
	return api.Type{Kind: api.TypeList, Max: limit, Elems: elements}
}

// pairs returns t in so many pairs around it.
func pairs(n int, t api.Type) api.Type {
	for range n {
		t = tuple(truth, t)
	}
	return t
}

func number(n int) api.Value { return api.Value{Int: n} }

// of returns the value with these elements.
func of(elements ...api.Value) api.Value { return api.Value{Elems: elements} }

func same(a, b api.Value) bool {
	return a.Int == b.Int && slices.EqualFunc(a.Elems, b.Elems, same)
}

// checkTypeError reports a function that does not return want for a type, whatever the other arguments are, or that returns a result beside the error.
func checkTypeError(t *testing.T, c api.Type, want api.Errno) {
	t.Helper()
	if v, e := value.Zero(c); e != want || !same(v, api.Value{}) {
		t.Errorf("Zero(%v) is %v, %d, not %d", c, v, e, want)
	}
	if all, e := value.All(c); e != want || len(all) != 0 {
		t.Errorf("All(%v) has %d values and the error %d, not %d", c, len(all), e, want)
	}
	for _, v := range []api.Value{{}, number(-1), of(number(2)), {Int: 1, Elems: []api.Value{{}}}} {
		checkValueError(t, c, v, want)
	}
	for _, cells := range [][]int{nil, {0}, {-1}, {0, 0, 0}} {
		if v, e := value.Unflatten(c, cells); e != want || !same(v, api.Value{}) {
			t.Errorf("Unflatten(%v, %v) is %v, %d, not %d", c, cells, v, e, want)
		}
	}
}

// checkValueError reports an error of any function that is not want, and a result beside an error.
func checkValueError(t *testing.T, c api.Type, v api.Value, want api.Errno) {
	t.Helper()
	if e := value.Check(c, v); e != want {
		t.Errorf("Check(%v, %v) is %d, not %d", c, v, e, want)
	}
	if cells, e := value.Flatten(c, v); e != want || e != api.OK && len(cells) != 0 {
		t.Errorf("Flatten(%v, %v) is %v, %d, not %d", c, v, cells, e, want)
	}
	if text, e := value.Format(c, v); e != want || e != api.OK && text != "" {
		t.Errorf("Format(%v, %v) is %q, %d, not %d", c, v, text, e, want)
	}
	if order, e := value.Compare(c, v, v); e != want || order != 0 {
		t.Errorf("Compare(%v, %v, %v) is %d, %d, not %d", c, v, v, order, e, want)
	}
}

func TestTypeErrors(t *testing.T) {
	wide := tuple(tuple(list(4, truth), list(4, truth)), list(4, truth), list(4, truth), list(4, truth)) // 25 cells
	for _, c := range []struct {
		t    api.Type
		want api.Errno
	}{
		{api.Type{}, api.ErrKind},
		{wrongKind, api.ErrKind},
		{api.Type{Kind: api.TypeBool, High: 1}, api.ErrForm},
		{api.Type{Kind: api.TypeNat, Max: 1}, api.ErrForm},
		{api.Type{Kind: api.TypeReal, Low: 1}, api.ErrForm}, // the error of Validate comes before ErrClass
		{integer(1, 0), api.ErrRange},
		{integer(0, 1001), api.ErrRange},
		{tuple(truth), api.ErrRange},
		{tuple(truth, natural), api.ErrClass},
		{tuple(realType, wrongKind), api.ErrClass},
		{list(5, truth), api.ErrRange},
		{list(1), api.ErrForm},
		{list(1, tuple(truth, truth)), api.ErrClass},
		{pairs(10, truth), api.ErrLimit},
		{wide, api.ErrLimit},
		{realType, api.ErrClass},
	} {
		if e := types.Validate(c.t); e != c.want && !types.Equal(c.t, realType) {
			t.Errorf("Validate(%v) is %d", c.t, e)
		}
		checkTypeError(t, c.t, c.want)
	}
}

// P7.1

func TestZero(t *testing.T) {
	for _, c := range []struct {
		t    api.Type
		want api.Value
	}{
		{truth, number(0)},
		{natural, number(0)},
		{integer(0, 0), number(0)},
		{integer(-3, 5), number(0)},
		{integer(-3, 0), number(0)},
		{integer(0, 3), number(0)},
		{integer(1, 3), number(1)},
		{integer(-3, -1), number(-1)},
		{integer(1000, 1000), number(1000)},
		{integer(-1000, -999), number(-999)},
		{list(1, truth), of()},
		{list(4, integer(7, 9)), of()},
		{tuple(truth, integer(2, 3)), of(number(0), number(2))},
		{tuple(list(2, integer(5, 5)), tuple(integer(-9, -8), integer(8, 9)), truth), of(of(), of(number(-8), number(8)), number(0))},
	} {
		v, e := value.Zero(c.t)
		if e != api.OK || !same(v, c.want) {
			t.Errorf("Zero(%v) is %v, %d, not %v", c.t, v, e, c.want)
		}
		checkValueError(t, c.t, v, api.OK)
	}
}

func TestNumbers(t *testing.T) {
	range3 := integer(-2, 3)
	for _, c := range []struct {
		t    api.Type
		v    api.Value
		want api.Errno
	}{
		{truth, number(0), api.OK},
		{truth, number(1), api.OK},
		{truth, number(2), api.ErrRange},
		{truth, number(-1), api.ErrRange},
		{truth, number(math.MinInt), api.ErrRange},
		{range3, number(-2), api.OK},
		{range3, number(3), api.OK},
		{range3, number(-3), api.ErrRange},
		{range3, number(4), api.ErrRange},
		{integer(5, 5), number(0), api.ErrRange},
		{integer(5, 5), number(5), api.OK},
		{integer(-1000, 1000), number(math.MaxInt), api.ErrRange},
		{natural, number(0), api.OK},
		{natural, number(api.MaxArith + 1), api.OK},
		{natural, number(math.MaxInt), api.OK},
		{natural, number(-1), api.ErrRange},
		{natural, number(math.MinInt), api.ErrRange},
	} {
		checkValueError(t, c.t, c.v, c.want)
	}
	// ErrForm comes before ErrRange, and an empty list of elements is none.
	for _, c := range []api.Type{truth, range3, natural} {
		checkValueError(t, c, of(number(0)), api.ErrForm)
		checkValueError(t, c, api.Value{Int: -9, Elems: []api.Value{{}}}, api.ErrForm)
		checkValueError(t, c, api.Value{Int: 1, Elems: []api.Value{}}, api.OK)
	}
}

func TestTuples(t *testing.T) {
	pair := tuple(truth, integer(5, 6))
	nested := tuple(pair, list(2, truth), truth)
	no, yes, five := number(0), number(1), number(5)
	for _, c := range []struct {
		t    api.Type
		v    api.Value
		want api.Errno
	}{
		{pair, of(yes, five), api.OK},
		{pair, of(), api.ErrForm},
		{pair, of(yes), api.ErrForm},
		{pair, of(yes, five, five), api.ErrForm},
		{pair, yes, api.ErrForm},
		{pair, api.Value{Int: 1, Elems: []api.Value{yes, five}}, api.ErrForm},
		{pair, api.Value{Int: -1, Elems: []api.Value{number(2), five}}, api.ErrForm}, // before the errors of the elements
		{pair, of(number(2)), api.ErrForm},
		{pair, of(number(2), five), api.ErrRange},
		{pair, of(yes, number(7)), api.ErrRange},
		{pair, of(yes, of(five)), api.ErrForm},
		{pair, of(number(2), of(five)), api.ErrRange}, // the first element before the second one
		{pair, of(of(yes), number(7)), api.ErrForm},
		{nested, of(of(no, five), of(yes), yes), api.OK},
		{nested, of(of(no, number(7)), of(yes, yes, yes), yes), api.ErrRange}, // an element is examined completely
		{nested, of(of(no), of(number(2)), yes), api.ErrForm},
		{nested, of(of(no, five), of(yes, number(2)), of(yes)), api.ErrRange},
		{nested, of(of(no, five), of(yes, of(yes)), number(2)), api.ErrForm},
		{nested, of(of(no, five), yes, yes), api.ErrForm},
		{nested, of(of(no, five), of(), number(2)), api.ErrRange},
	} {
		checkValueError(t, c.t, c.v, c.want)
	}
}

func TestLists(t *testing.T) {
	two := list(2, integer(5, 6))
	five, six := number(5), number(6)
	for _, c := range []struct {
		t    api.Type
		v    api.Value
		want api.Errno
	}{
		{two, of(), api.OK},
		{two, of(six), api.OK},
		{two, of(six, five), api.OK},
		{two, of(six, five, six), api.ErrForm},
		{two, of(number(7), five, six), api.ErrForm}, // before the errors of the elements
		{two, number(1), api.ErrForm},
		{two, number(-1), api.ErrForm},
		{two, api.Value{Int: 2, Elems: []api.Value{six, five}}, api.ErrForm},
		{two, api.Value{Int: 1, Elems: []api.Value{number(7)}}, api.ErrForm},
		{two, of(number(0)), api.ErrRange},
		{two, of(five, number(7)), api.ErrRange},
		{two, of(of(five)), api.ErrForm},
		{two, of(number(7), of(five)), api.ErrRange}, // the first element before the second one
		{two, of(of(five), number(7)), api.ErrForm},
		{list(1, truth), of(number(1)), api.OK},
		{list(1, truth), of(number(1), number(1)), api.ErrForm},
		{list(4, truth), of(number(1), number(0), number(1), number(1)), api.OK},
		{list(4, truth), of(number(1), number(0), number(1), number(1), number(1)), api.ErrForm},
	} {
		checkValueError(t, c.t, c.v, c.want)
	}
}

// A list of elements that contains itself has no depth.
func TestEndlessValues(t *testing.T) {
	elements := make([]api.Value, 2)
	elements[0], elements[1] = of(elements...), of(elements...)
	for _, c := range []api.Type{truth, natural, integer(0, 1), list(2, truth), tuple(truth, truth), pairs(9, truth), tuple(pairs(8, truth), truth)} {
		checkValueError(t, c, of(elements...), api.ErrForm)
	}
}

// P7.2

// checkCells reports if cells are not those of the value, or the value is not that of the cells.
func checkCells(t *testing.T, c api.Type, v api.Value, cells []int) {
	t.Helper()
	if got, e := value.Flatten(c, v); e != api.OK || !slices.Equal(got, cells) {
		t.Errorf("Flatten(%v, %v) is %v, %d, not %v", c, v, got, e, cells)
	}
	if got, e := value.Unflatten(c, cells); e != api.OK || !same(got, v) {
		t.Errorf("Unflatten(%v, %v) is %v, %d, not %v", c, cells, got, e, v)
	}
}

func TestFlatten(t *testing.T) {
	checkCells(t, truth, number(1), []int{1})
	checkCells(t, integer(-9, -5), number(-7), []int{-7})
	checkCells(t, natural, number(0), []int{0})
	checkCells(t, natural, number(math.MaxInt), []int{math.MaxInt})
	checkCells(t, list(2, truth), of(), []int{0, 0, 0})
	checkCells(t, list(2, truth), of(number(1)), []int{1, 1, 0}) // the example of the document
	checkCells(t, list(2, truth), of(number(0)), []int{1, 0, 0})
	checkCells(t, list(2, truth), of(number(1), number(0)), []int{2, 1, 0})
	checkCells(t, list(3, integer(4, 9)), of(number(9)), []int{1, 9, 4, 4}) // the zero of the element type is not 0
	checkCells(t, list(3, integer(-9, -4)), of(number(-9), number(-8)), []int{2, -9, -8, -4})
	checkCells(t, list(4, integer(4, 4)), of(number(4), number(4)), []int{2, 4, 4, 4, 4})
	checkCells(t, tuple(truth, integer(-1, 1)), of(number(1), number(-1)), []int{1, -1})
	nested := tuple(list(2, integer(3, 5)), tuple(truth, list(1, truth), integer(7, 8)), truth)
	checkCells(t, nested, of(of(number(5)), of(number(1), of(), number(8)), number(1)), []int{1, 5, 3, 1, 0, 0, 8, 1})
	checkCells(t, nested, of(of(number(3), number(4)), of(number(0), of(number(1)), number(7)), number(0)), []int{2, 3, 4, 0, 1, 1, 7, 0})
	checkCells(t, pairs(9, truth), of(number(1), of(number(0), of(number(1), of(number(1), of(number(0), of(number(0), of(number(0), of(number(1), of(number(1), number(0)))))))))), []int{1, 0, 1, 1, 0, 0, 0, 1, 1, 0})
}

func TestNoValue(t *testing.T) {
	two, pair := list(2, integer(3, 5)), tuple(list(1, truth), integer(-1, 1))
	for _, c := range []struct {
		t     api.Type
		cells []int
	}{
		{truth, nil}, {truth, []int{}}, {truth, []int{2}}, {truth, []int{-1}}, {truth, []int{0, 0}},
		{integer(3, 5), []int{2}}, {integer(3, 5), []int{6}}, {integer(3, 5), []int{math.MinInt}},
		{natural, []int{-1}}, {natural, []int{0, 0}}, {natural, nil},
		{two, nil}, {two, []int{0}}, {two, []int{0, 3}}, {two, []int{0, 3, 3, 3}}, // the number of cells
		{two, []int{-1, 3, 3}}, {two, []int{3, 3, 3}}, {two, []int{math.MaxInt, 3, 3}}, {two, []int{math.MinInt, 3, 3}}, // the length
		{two, []int{2, 3, 6}}, {two, []int{2, 2, 3}}, {two, []int{1, 0, 3}}, // the elements
		{two, []int{0, 0, 0}}, {two, []int{0, 3, 4}}, {two, []int{0, 4, 3}}, {two, []int{1, 4, 4}}, {two, []int{1, 4, 0}}, // the cells behind them
		{list(2, truth), []int{1, 1, 1}}, // the example of the document
		{list(2, truth), []int{0, 1, 0}},
		{pair, []int{0, 0}}, {pair, []int{0, 0, 0, 0}}, {pair, []int{0, 0, 2}}, {pair, []int{0, 1, 0}}, {pair, []int{2, 1, 0}},
	} {
		if v, e := value.Unflatten(c.t, c.cells); e != api.ErrForm || !same(v, api.Value{}) {
			t.Errorf("Unflatten(%v, %v) is %v, %d", c.t, c.cells, v, e)
		}
	}
}

// checkOrder reports pairs of values that Compare does not order as the list does.
func checkOrder(t *testing.T, c api.Type, l ...api.Value) {
	t.Helper()
	for i, a := range l {
		for j, b := range l {
			want := max(-1, min(i-j, 1))
			if got, e := value.Compare(c, a, b); got != want || e != api.OK {
				t.Errorf("Compare(%v, %v, %v) is %d, %d, not %d", c, a, b, got, e, want)
			}
		}
	}
}

func TestCompare(t *testing.T) {
	zero, one, two := number(0), number(1), number(2)
	checkOrder(t, truth, zero, one)
	checkOrder(t, integer(-1000, 1000), number(-1000), number(-999), number(-1), zero, one, number(1000))
	checkOrder(t, natural, zero, one, number(1<<40), number(math.MaxInt))
	checkOrder(t, tuple(truth, integer(-1, 1)), of(zero, number(-1)), of(zero, zero), of(zero, one), of(one, number(-1)), of(one, one))
	// The length comes first, and then the elements.
	checkOrder(t, list(3, integer(-1, 2)), of(), of(number(-1)), of(zero), of(two), of(number(-1), number(-1)), of(zero, two), of(one, zero), of(zero, zero, zero))
	checkOrder(t, tuple(list(2, truth), truth), of(of(), zero), of(of(), one), of(of(zero), zero), of(of(one), zero), of(of(zero, zero), one), of(of(zero, one), zero))
}

func TestCompareErrors(t *testing.T) {
	k := tuple(truth, list(1, truth))
	good, form, outside := of(number(1), of()), number(3), of(number(1), of(number(2)))
	for _, c := range []struct {
		a, b api.Value
		want api.Errno
	}{
		{good, form, api.ErrForm},
		{good, outside, api.ErrRange},
		{form, good, api.ErrForm},
		{outside, good, api.ErrRange},
		{form, outside, api.ErrForm}, // the error of a, then that of b
		{outside, form, api.ErrRange},
	} {
		if got, e := value.Compare(k, c.a, c.b); e != c.want || got != 0 {
			t.Errorf("Compare of %v and %v is %d, %d, not %d", c.a, c.b, got, e, c.want)
		}
	}
	if got, e := value.Compare(realType, form, outside); e != api.ErrClass || got != 0 {
		t.Error("the error of the type", got, e)
	}
}

// P7.3 and P7.5

func TestAll(t *testing.T) {
	zero, one, two := number(0), number(1), number(2)
	for _, c := range []struct {
		t    api.Type
		want []api.Value
	}{
		{truth, []api.Value{zero, one}},
		{integer(-1, 2), []api.Value{number(-1), zero, one, two}},
		{integer(1000, 1000), []api.Value{number(1000)}},
		{tuple(truth, integer(1, 2)), []api.Value{of(zero, one), of(zero, two), of(one, one), of(one, two)}},
		{list(2, truth), []api.Value{of(), of(zero), of(one), of(zero, zero), of(zero, one), of(one, zero), of(one, one)}},
		{list(3, integer(2, 2)), []api.Value{of(), of(two), of(two, two), of(two, two, two)}},
		{tuple(list(1, truth), tuple(truth, integer(2, 2))), []api.Value{
			of(of(), of(zero, two)), of(of(), of(one, two)), of(of(zero), of(zero, two)),
			of(of(zero), of(one, two)), of(of(one), of(zero, two)), of(of(one), of(one, two)),
		}},
	} {
		if got, e := value.All(c.t); e != api.OK || !slices.EqualFunc(got, c.want, same) {
			t.Errorf("All(%v) is %v, %d, not %v", c.t, got, e, c.want)
		}
	}
}

func TestAllErrors(t *testing.T) {
	large := integer(-1000, 1000)
	for _, c := range []struct {
		t    api.Type
		want api.Errno
	}{
		{natural, api.ErrClass},
		{large, api.OK},
		{tuple(integer(1, 64), integer(1, 64)), api.OK},                          // 4096
		{tuple(integer(1, 17), integer(1, 241)), api.ErrLimit},                   // 4097
		{tuple(integer(1, 2), integer(1, 1000), truth), api.OK},                  // 4000
		{tuple(tuple(truth, integer(0, 0)), large), api.OK},                      // 4002
		{tuple(list(1, truth), large), api.ErrLimit},                             // 6003
		{list(2, integer(1, 63)), api.OK},                                        // 4033
		{list(2, integer(1, 64)), api.ErrLimit},                                  // 4161
		{list(4, integer(1, 7)), api.OK},                                         // 2801
		{list(4, integer(1, 8)), api.ErrLimit},                                   // 4681
		{tuple(list(4, large), list(4, large), list(4, large)), api.ErrLimit},    // Size returns ErrLimit
		{tuple(tuple(large, large, large), tuple(large, large)), api.ErrLimit},   // no int holds the number
		{tuple(integer(1, 1), integer(2, 2), list(4, integer(3, 3))), api.OK},    // 5
		{api.Type{Kind: api.TypeNat, Low: 1}, api.ErrForm},                       // the error of Validate comes first
		{tuple(tuple(truth, truth), tuple(natural, large, large)), api.ErrClass}, // and this is the error of Validate
	} {
		all, e := value.All(c.t)
		if e != c.want || e != api.OK && len(all) != 0 {
			t.Errorf("All(%v) has %d values and the error %d, not %d", c.t, len(all), e, c.want)
		}
		if n, _ := types.Size(c.t); e == api.OK && len(all) != n {
			t.Errorf("All(%v) has %d values, not %d", c.t, len(all), n)
		}
	}
}

// P7.4

func TestFormat(t *testing.T) {
	for _, c := range []struct {
		t    api.Type
		v    api.Value
		want string
	}{
		{truth, number(0), "false"},
		{truth, number(1), "true"},
		{integer(0, 1), number(0), "0"},
		{integer(0, 1), number(1), "1"},
		{integer(-1000, 1000), number(-1000), "-1000"},
		{natural, number(0), "0"},
		{natural, number(math.MaxInt), "9223372036854775807"},
		{list(2, truth), of(), "[]"},
		{list(2, truth), of(number(1)), "[true]"},
		{list(2, truth), of(number(1), number(0)), "[true, false]"},
		{list(4, integer(-9, 9)), of(number(-9), number(0), number(9)), "[-9, 0, 9]"},
		{tuple(truth, truth), of(number(1), number(0)), "(true, false)"},
		{tuple(integer(-1, 1), truth, list(1, truth), tuple(truth, integer(0, 1))), of(number(-1), number(0), of(), of(number(1), number(1))), "(-1, false, [], (true, 1))"},
		{tuple(list(2, integer(3, 5)), list(2, truth)), of(of(number(4), number(5)), of(number(0))), "([4, 5], [false])"},
	} {
		if got, e := value.Format(c.t, c.v); got != c.want || e != api.OK {
			t.Errorf("Format(%v, %v) is %q, %d, not %q", c.t, c.v, got, e, c.want)
		}
	}
}
