package value

import (
	"slices"
	"testing"

	"exactppl/api"
)

// A loop may leave an enumeration at any value.
func TestValuesUntilBreak(t *testing.T) {
	truth, three := api.Type{Kind: api.TypeBool}, api.Type{Kind: api.TypeInt, Low: 3, High: 5}
	list := api.Type{Kind: api.TypeList, Max: 3, Elems: []api.Type{three}}
	pair := api.Type{Kind: api.TypeTuple, Elems: []api.Type{truth, list}}
	for _, c := range []api.Type{truth, three, list, pair, {Kind: api.TypeTuple, Elems: []api.Type{pair, truth, three}}} {
		all, e := All(c)
		if e != api.OK {
			t.Fatal(c, e)
		}
		for n := 1; n <= len(all); n++ {
			var l []api.Value
			for v := range values(c) {
				l = append(l, v)
				if len(l) == n {
					break
				}
			}
			order := func(a, b api.Value) bool {
				i, e := Compare(c, a, b)
				return i == 0 && e == api.OK
			}
			if !slices.EqualFunc(l, all[:n], order) {
				t.Errorf("the first %d values of %v are %v", n, c, l)
			}
		}
	}
}
