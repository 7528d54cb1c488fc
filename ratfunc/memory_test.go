package ratfunc_test

import (
	"math/rand/v2"
	"slices"
	"testing"

	"exactppl/api"
	"exactppl/ratfunc"
)

// R3, R5 and the rule that results are new memory

// spare returns a copy of p with other numbers in the memory behind all its lists.
func spare(p api.Poly) api.Poly {
	limbs := func(a []uint32) []uint32 { return append(slices.Clone(a), 77, 78)[:len(a)] }
	var q api.Poly
	for _, t := range append(slices.Clone(p), term(79, 1, 2)) {
		t.Coef.Num, t.Coef.Den = limbs(t.Coef.Num), limbs(t.Coef.Den)
		q = append(q, t)
	}
	return q[:len(p)]
}

// behind returns p with the term behind it, and all limbs with those behind them.
func behind(p api.Poly) api.Poly {
	q := slices.Clone(p[:len(p)+1])
	for i, t := range q {
		q[i].Coef.Num = t.Coef.Num[:len(t.Coef.Num)+2]
		q[i].Coef.Den = t.Coef.Den[:len(t.Coef.Den)+2]
	}
	return q
}

// results calls all functions whose results have memory.
func results(f, g api.Quot) []api.Quot {
	var l []api.Quot
	keep := func(f api.Quot, e api.Errno) { l = append(l, f) }
	keep(ratfunc.Make(f.Num, f.Den))
	keep(ratfunc.FromPoly(f.Num))
	keep(ratfunc.Norm(f))
	keep(ratfunc.Add(f, g))
	keep(ratfunc.Sub(f, g))
	keep(ratfunc.Mul(f, g))
	keep(ratfunc.Div(f, g))
	for _, v := range []int{0, 1, 7} {
		keep(ratfunc.Derivative(f, v))
		keep(ratfunc.Substitute(f, v, g))
	}
	value, _ := ratfunc.Eval(f, nil)
	keep(over(api.Poly{{Coef: value}}, nil), api.OK)
	ratfunc.Equal(f, g)
	ratfunc.Format(f, nil)
	return l
}

// overwrite writes into all memory of a result, and reports two of its lists that share memory.
func overwrite(t *testing.T, f api.Quot) {
	t.Helper()
	var lists [][]uint32
	for _, u := range slices.Concat(f.Num, f.Den) {
		lists = append(lists, u.Coef.Num[:cap(u.Coef.Num)], u.Coef.Den[:cap(u.Coef.Den)])
	}
	for i, list := range lists {
		for j := range list {
			list[j] = uint32(i)
		}
	}
	for i, list := range lists {
		if slices.ContainsFunc(list, func(x uint32) bool { return x != uint32(i) }) {
			t.Fatal("two numbers of a result share memory")
		}
	}
	num, den := f.Num[:cap(f.Num)], f.Den[:cap(f.Den)]
	for i := range num {
		num[i] = term(1, 1)
	}
	for i := range den {
		den[i] = term(2, 2)
	}
	if slices.ContainsFunc(num, func(u api.Term) bool { return u.Mono != api.Mono{1} }) {
		t.Fatal("numerator and denominator of a result share memory")
	}
}

func TestMemory(t *testing.T) {
	r := rand.New(rand.NewPCG(41, 42))
	l := []api.Quot{{}, whole(nil), whole(number(1)), whole(poly(term(1, 1))), over(number(1), poly(term(1, 1))), over(poly(term(1, 1)), poly(term(1, 1))), over(poly(last(-3, 1)), nil)}
	for range 10 {
		f := randomPowers(r).quot()
		l = append(l, f, expand(r, f, factors()[r.IntN(10)]), randomQuot(r))
	}
	for _, f := range l {
		for _, g := range l[:10] {
			a, b := over(spare(f.Num), spare(f.Den)), over(spare(g.Num), spare(g.Den))
			got, want := results(a, b), results(f, g)
			for i, result := range got {
				if !sameQuot(result, want[i]) {
					t.Fatalf("the result %d of %s and %s differs from that of a copy", i, text(f), text(g))
				}
				overwrite(t, result)
			}
			for i, p := range []api.Poly{a.Num, a.Den, b.Num, b.Den} {
				before := []api.Poly{f.Num, f.Den, g.Num, g.Den}[i]
				if !samePoly(behind(p), behind(spare(before))) {
					t.Fatalf("an argument changed: %s, %s", text(f), text(g))
				}
			}
		}
	}
}

// One Quot may be both arguments, and one list both of its parts.
func TestSameArgument(t *testing.T) {
	for _, p := range factors() {
		f := over(p, p)
		got, e := ratfunc.Norm(f)
		check(t, got, e, whole(number(1)), "Norm", f)
		got, e = ratfunc.Add(f, f)
		check(t, got, e, whole(number(2)), "Add", f, f)
		g := over(p, number(1))
		got, e = ratfunc.Div(g, g)
		check(t, got, e, whole(number(1)), "Div", g, g)
		got, e = ratfunc.Substitute(g, 0, f)
		if e != api.OK || !samePoly(p, spare(p)) {
			fail(t, "Substitute", got, e, g, f)
		}
	}
}
