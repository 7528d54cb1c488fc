package measure

import (
	"slices"

	"exactppl/api"
	"exactppl/polynomial"
)

// place returns where the row with a key is, or where it would be, and whether there is one.
func place(rows []api.Row, key []int) (int, bool) {
	return slices.BinarySearchFunc(rows, key, func(row api.Row, key []int) int {
		return slices.Compare(row.Key, key)
	})
}

// fits reports whether there are no rows, or rows whose keys have the same length as a key.
func fits(rows []api.Row, key []int) bool {
	return len(rows) == 0 || len(rows[0].Key) == len(key)
}

// joined returns the sum of the masses of the rows and of further masses.
func joined(rows []api.Row, further ...api.Poly) api.Poly {
	var terms api.Poly
	for _, row := range rows {
		terms = append(terms, row.Mass...)
	}
	for _, mass := range further {
		terms = append(terms, mass...)
	}
	sum, _ := polynomial.Norm(terms) // terms of valid masses are valid
	return sum
}

// collected returns rows that have their keys in order, each one once, given rows in any order; no mass is zero. It sorts its argument.
func collected(rows []api.Row) []api.Row {
	slices.SortFunc(rows, compare)
	var out []api.Row
	for from, to := 0, 0; from < len(rows); from = to {
		for to < len(rows) && compare(rows[from], rows[to]) == 0 {
			to++
		}
		if mass := joined(rows[from:to]); len(mass) > 0 {
			out = append(out, api.Row{Key: rows[from].Key, Mass: mass})
		}
	}
	return out
}

// Put returns m with a mass added to the row with a key. It returns ErrRange if m has a row whose key has another length.
func Put(m api.Measure, key []int, mass api.Poly) (api.Measure, api.Errno) {
	m, e := normal(m)
	if e != api.OK {
		return api.Measure{}, e
	}
	mass, e = polynomial.Norm(mass)
	if e != api.OK {
		return api.Measure{}, e
	}
	if !fits(m.Rows, key) {
		return api.Measure{}, api.ErrRange
	}
	from, found := place(m.Rows, key)
	to := from
	if found {
		to++
	}
	row := []api.Row{{Key: copyOf(key), Mass: joined(m.Rows[from:to], mass)}}
	m.Rows = slices.Replace(m.Rows, from, to, collected(row)...) // no row if its mass is zero
	return m, api.OK
}

// Add returns the sum of a and b. It returns ErrRange if both have rows and the lengths of their keys differ.
func Add(a, b api.Measure) (api.Measure, api.Errno) {
	a, e := normal(a)
	if e != api.OK {
		return api.Measure{}, e
	}
	b, e = normal(b)
	if e != api.OK {
		return api.Measure{}, e
	}
	if len(b.Rows) > 0 && !fits(a.Rows, b.Rows[0].Key) {
		return api.Measure{}, api.ErrRange
	}
	return api.Measure{
		Rows:     collected(append(a.Rows, b.Rows...)),
		Rejected: joined(nil, a.Rejected, b.Rejected),
		Cut:      joined(nil, a.Cut, b.Cut),
	}, api.OK
}

// Marginal returns the measure of the elements of the keys with the indices cells, in this order. It returns ErrRange if there are rows and an index is not that of an element of their keys.
func Marginal(m api.Measure, cells []int) (api.Measure, api.Errno) {
	m, e := normal(m)
	if e != api.OK {
		return api.Measure{}, e
	}
	for i, row := range m.Rows {
		key := make([]int, 0, len(cells))
		for _, cell := range cells {
			if !has(row.Key, cell) {
				return api.Measure{}, api.ErrRange
			}
			key = append(key, row.Key[cell])
		}
		m.Rows[i].Key = key
	}
	m.Rows = collected(m.Rows)
	return m, api.OK
}

// has reports whether a key has an element with the index cell.
func has(key []int, cell int) bool { return cell >= 0 && cell < len(key) }
