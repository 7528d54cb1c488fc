package value

import (
	"slices"

	"exactppl/api"
	"exactppl/types"
)

// Flatten returns the cells of v. Those of a list are the number of its elements, the cells of its elements, and the zero of the element type in each cell behind them.
func Flatten(t api.Type, v api.Value) ([]int, api.Errno) {
	if e := Check(t, v); e != api.OK {
		return nil, e
	}
	return appendCells(nil, t, v), api.OK
}

// appendCells returns the cells of v, which is a value of t, behind those of l.
func appendCells(l []int, t api.Type, v api.Value) []int {
	switch t.Kind {
	case api.TypeTuple:
		for i, element := range v.Elems {
			l = appendCells(l, t.Elems[i], element)
		}
		return l
	case api.TypeList:
		l = append(l, len(v.Elems))
		for _, element := range v.Elems {
			l = appendCells(l, t.Elems[0], element)
		}
		for range t.Max - len(v.Elems) {
			l = appendCells(l, t.Elems[0], zero(t.Elems[0]))
		}
		return l
	}
	return append(l, v.Int)
}

// Unflatten returns the value whose cells these are, or ErrForm if there is none.
func Unflatten(t api.Type, cells []int) (api.Value, api.Errno) {
	if e := typeFault(t); e != api.OK {
		return api.Value{}, e
	}
	// No error, because t is valid.
	kinds, _ := types.Cells(t)
	if len(cells) != len(kinds) {
		return api.Value{}, api.ErrForm
	}
	v, _ := read(t, cells)
	// What read passes over, a wrong length and the cells behind a list, shows in the cells of v.
	if fault(t, v) != api.OK || !slices.Equal(appendCells(nil, t, v), cells) {
		return api.Value{}, api.ErrForm
	}
	return v, api.OK
}

// read returns the only value of t, which is valid, that the first cells can be the cells of, and the cells behind them. There are enough cells.
func read(t api.Type, cells []int) (api.Value, []int) {
	switch t.Kind {
	case api.TypeTuple:
		return readElements(t.Elems, cells)
	case api.TypeList:
		length := min(max(0, cells[0]), t.Max)
		v, rest := readElements(slices.Repeat(t.Elems, length), cells[1:])
		_, rest = readElements(slices.Repeat(t.Elems, t.Max-length), rest)
		return v, rest
	}
	return api.Value{Int: cells[0]}, cells[1:]
}

// readElements returns the value whose elements have these types, one for each of them, and the cells behind it.
func readElements(l []api.Type, cells []int) (api.Value, []int) {
	var v, element api.Value
	for _, t := range l {
		element, cells = read(t, cells)
		v.Elems = append(v.Elems, element)
	}
	return v, cells
}
