package copying_test

import (
	"reflect"
	"testing"

	"exactppl/api"
	"exactppl/copying"
	"exactppl/core"
	"exactppl/polynomial"
)

// half denotes 1/2, and minus denotes -1/2, both not in normal form.
func half() api.Rat { return api.Rat{Num: []uint32{3, 0}, Den: []uint32{6, 0}} }

func minus() api.Rat { return api.Rat{Neg: true, Num: []uint32{2}, Den: []uint32{4}} }

// fair has two equal weights, not in normal form.
func fair() api.Dist {
	return api.Dist{Kind: api.DistTable, Low: 3, Weights: []api.Poly{{{Coef: half()}}, {{Coef: half()}, {Coef: half()}, {Coef: minus()}}}}
}

func fraction() api.Form { return api.Form{Op: api.FoRat, Rat: half()} }

// sum has a fraction inside another form.
func sum() api.Form {
	return api.Form{Op: api.FoAdd, Args: []api.Form{{Op: api.FoMul, Args: []api.Form{fraction(), {Op: api.FoVar, Int: 1}}}, {Op: api.FoInt, Int: 7}}}
}

func isSmall() api.Form { return api.Form{Op: api.FoLt, Args: []api.Form{fraction(), sum()}} }

func truth() api.Cell { return api.Cell{Kind: api.TypeBool, High: 1} }

func boolean() api.Type { return api.Type{Kind: api.TypeBool} }

// module has values in all fields that there are.
func module() api.Module {
	draws := []api.Cmd{
		{Kind: api.CmdDraw, Var: 2, Site: 4, Dist: fair()},
		{Kind: api.CmdDraw, Var: 1, Dist: api.Dist{Kind: api.DistInterval, From: minus(), To: half()}},
		{Kind: api.CmdDraw, Var: 1, Site: 2, Dist: api.Dist{Kind: api.DistBeta, Low: 2, High: 3}},
		{Kind: api.CmdDraw, Var: 3, Dist: api.Dist{Kind: api.DistGeometric, From: half()}},
	}
	finite := api.Module{Cells: []api.Cell{truth()}, Body: []api.Cmd{{Kind: api.CmdDraw, Site: 9, Dist: fair()}, {Kind: api.CmdObserve, Form: api.Form{Op: api.FoLe, Args: []api.Form{fraction(), fraction()}}}}, Outs: []int{0}, Type: boolean()}
	return api.Module{
		Params: 2,
		Cells:  []api.Cell{truth(), {Kind: api.TypeReal}, {Kind: api.TypeInt, Low: -1, High: 5}, {Kind: api.TypeNat}},
		Procs: []api.Proc{{Cells: []api.Cell{truth(), truth()}, Args: 1, Outs: []int{1, 0}, Body: []api.Cmd{
			{Kind: api.CmdDraw, Var: 1, Site: 6, Dist: fair()},
			{Kind: api.CmdCall, Args: []api.Form{{Op: api.FoVar, Int: 1}}, Outs: []int{1, 0}},
		}}},
		Nested: []api.Module{finite, {Cells: []api.Cell{truth()}, Body: []api.Cmd{{Kind: api.CmdDraw, Dist: api.Dist{Kind: api.DistNested}}}, Outs: []int{0}, Type: boolean()}},
		Body: []api.Cmd{
			{Kind: api.CmdIf, Form: isSmall(), Then: draws, Else: []api.Cmd{{Kind: api.CmdCut}}},
			{Kind: api.CmdSet, Outs: []int{1, 0}, Args: []api.Form{sum(), isSmall()}},
			{Kind: api.CmdWhile, Form: isSmall(), Then: []api.Cmd{{Kind: api.CmdDraw, Dist: api.Dist{Kind: api.DistNested, Low: 1}}}},
		},
		Outs: []int{0, 2},
		Type: api.Type{Kind: api.TypeTuple, Elems: []api.Type{boolean(), {Kind: api.TypeInt, Low: -1, High: 5}}},
	}
}

// fractions calls visit for all fractions of v, and for all polynomials.
func fractions(v reflect.Value, rat func(api.Rat), poly func(api.Poly)) {
	switch x := v.Interface().(type) {
	case api.Rat:
		rat(x)
		return
	case api.Poly:
		poly(x)
		return
	}
	switch v.Kind() {
	case reflect.Struct:
		for i := range v.NumField() {
			fractions(v.Field(i), rat, poly)
		}
	case reflect.Slice:
		for i := range v.Len() {
			fractions(v.Index(i), rat, poly)
		}
	}
}

// The copy is equal, and has its fractions and polynomials in normal form; those that are not used are zero.
func TestModule(t *testing.T) {
	m := module()
	if e := core.Validate(m); e != api.OK {
		t.Fatal("the module is not valid:", e)
	}
	n := copying.Module(m)
	if !core.Equal(m, n) || core.Validate(n) != api.OK || !reflect.DeepEqual(m, module()) {
		t.Errorf("the copy is %+v", n)
	}
	found := map[bool]int{}
	fractions(reflect.ValueOf(n), func(r api.Rat) {
		isUsed := len(r.Num) > 0
		found[isUsed]++
		if normal := (api.Rat{Neg: r.Neg, Num: []uint32{1}, Den: []uint32{2}}); isUsed && !reflect.DeepEqual(r, normal) || !isUsed && !reflect.DeepEqual(r, api.Rat{}) {
			t.Errorf("a fraction is %+v", r)
		}
	}, func(p api.Poly) {
		if normal, e := polynomial.Norm(p); e != api.OK || !reflect.DeepEqual(p, normal) {
			t.Errorf("a weight is %+v", p)
		}
	})
	if found[true] < 10 || found[false] < 10 {
		t.Errorf("there are %v fractions", found)
	}
}

// lists calls visit for all lists of v that are not empty.
func lists(v reflect.Value, visit func(reflect.Value)) {
	switch v.Kind() {
	case reflect.Struct:
		for i := range v.NumField() {
			lists(v.Field(i), visit)
		}
	case reflect.Slice:
		if v.Len() > 0 {
			visit(v)
		}
		for i := range v.Len() {
			lists(v.Index(i), visit)
		}
	}
}

// No list of the copy begins where another one of it or one of the module does.
func TestMemory(t *testing.T) {
	m := module()
	n := copying.Module(m)
	seen := map[uintptr]bool{}
	for _, x := range []api.Module{m, n} {
		lists(reflect.ValueOf(x), func(v reflect.Value) {
			if p := v.Pointer(); seen[p] {
				t.Errorf("the memory of %+v is shared", v)
			} else {
				seen[p] = true
			}
		})
	}
	d := fair()
	e := copying.Dist(d)
	lists(reflect.ValueOf(d), func(v reflect.Value) { seen[v.Pointer()] = true })
	lists(reflect.ValueOf(e), func(v reflect.Value) {
		if seen[v.Pointer()] {
			t.Errorf("the memory of %+v is shared", v)
		}
	})
	if want := copying.Module(m).Nested[0].Body[0].Dist; !reflect.DeepEqual(e, want) {
		t.Errorf("the copy is %+v, not %+v", e, want)
	}
}
