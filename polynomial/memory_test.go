package polynomial_test

import (
	"math/rand/v2"
	"slices"
	"testing"

	"exactppl/api"
	"exactppl/polynomial"
)

// R3, R5 and the rule that results are new memory

// wide returns a copy of a with other limbs in the memory behind it.
func wide(a []uint32) []uint32 { return append(slices.Clone(a), 77, 78)[:len(a)] }

func wideRat(a api.Rat) api.Rat { return api.Rat{Neg: a.Neg, Num: wide(a.Num), Den: wide(a.Den)} }

// widePoly returns a copy of p with another term in the memory behind it.
func widePoly(p api.Poly) api.Poly {
	var q api.Poly
	for _, t := range append(slices.Clone(p), term(79, 1, 2)) {
		q = append(q, api.Term{Mono: t.Mono, Coef: wideRat(t.Coef)})
	}
	return q[:len(p)]
}

// limbs returns all lists of limbs of polynomials, with the memory behind them.
func limbs(l []api.Poly) [][]uint32 {
	var all [][]uint32
	for _, p := range l {
		for _, t := range p {
			all = append(all, t.Coef.Num[:cap(t.Coef.Num)], t.Coef.Den[:cap(t.Coef.Den)])
		}
	}
	return all
}

// results calls all functions whose results have memory.
func results(p, q api.Poly, c api.Rat) [][]api.Poly {
	var l [][]api.Poly
	keep := func(p api.Poly, e api.Errno) { l = append(l, []api.Poly{p}) }
	keep(polynomial.Norm(p))
	keep(polynomial.Const(c), api.OK)
	keep(polynomial.Var(3))
	keep(polynomial.Add(p, q))
	keep(polynomial.Sub(p, q))
	keep(polynomial.Mul(p, q))
	keep(polynomial.Scale(p, c))
	keep(polynomial.Derivative(p, 0))
	keep(polynomial.Derivative(p, 1))
	keep(polynomial.Divide(p, q))
	for _, n := range []int{0, 1, 2} {
		keep(polynomial.Pow(p, n))
	}
	for _, v := range []int{0, 1, 7} {
		keep(polynomial.Substitute(p, v, q))
		coefs, _ := polynomial.Coefs(p, v)
		l = append(l, coefs)
	}
	for _, x := range [][]api.Rat{nil, {c}, {c, c, c}} {
		value, _ := polynomial.Eval(p, x)
		l = append(l, []api.Poly{{{Coef: value}}})
	}
	return l
}

// overwrite writes into all memory of a result, and reports two of its lists that share memory.
func overwrite(t *testing.T, l []api.Poly) {
	t.Helper()
	for i, list := range limbs(l) {
		for j := range list {
			list[j] = uint32(i)
		}
	}
	for i, list := range limbs(l) {
		if slices.ContainsFunc(list, func(x uint32) bool { return x != uint32(i) }) {
			t.Fatalf("two numbers of a result share memory: %v", l)
		}
	}
	for i, p := range l {
		for j := range p[:cap(p)] {
			p[:cap(p)][j] = api.Term{Mono: api.Mono{i, j}}
		}
	}
	for i, p := range l {
		for j, u := range p {
			if u.Mono != (api.Mono{i, j}) {
				t.Fatalf("two polynomials of a result share memory: %v", l)
			}
		}
	}
}

// checkMemory overwrites every result, and sees whether an argument or another result changes.
func checkMemory(t *testing.T, p, q api.Poly, c api.Rat) {
	t.Helper()
	a, b, number := widePoly(p), widePoly(q), wideRat(c)
	got := results(a, b, number)
	for i, want := range results(p, q, c) {
		if !slices.EqualFunc(got[i], want, samePoly) {
			t.Fatalf("the result %d of %v, %v, %v is %v, not %v", i, p, q, c, got[i], want)
		}
		overwrite(t, got[i])
	}
	for _, x := range []struct{ now, before api.Poly }{{a, widePoly(p)}, {b, widePoly(q)}, {api.Poly{{Coef: number}}, api.Poly{{Coef: wideRat(c)}}}} {
		whole, before := x.now[:len(x.now)], x.before[:len(x.before)]
		if cap(x.now) > len(x.now) {
			whole, before = x.now[:len(x.now)+1], x.before[:len(x.before)+1]
		}
		if !samePoly(whole, before) || !slices.EqualFunc(limbs([]api.Poly{whole}), limbs([]api.Poly{before}), slices.Equal) {
			t.Fatalf("an argument changed: %v, %v, %v", p, q, c)
		}
	}
}

func TestMemory(t *testing.T) {
	r := rand.New(rand.NewPCG(25, 26))
	all := polys()
	for _, p := range all {
		for _, q := range all[:25] {
			checkMemory(t, p, q, randomRat(r))
		}
		normal := toRef(p).normal()
		checkMemory(t, normal, power(0, 0), fromBig(toBig(randomRat(r))))
		checkMemory(t, normal, normal, fromBig(toBig(randomRat(r))))
	}
}

// One list may be both arguments.
func TestSameArgument(t *testing.T) {
	for _, p := range polys() {
		keep := widePoly(p)
		got, e := polynomial.Substitute(p, 0, p)
		check(t, got, e, toRef(p).insert(0, toRef(p)), "Substitute", p, p)
		if len(toRef(p).normal()) > 0 {
			got, e = polynomial.Divide(p, p)
			check(t, got, e, toRef(power(0, 0)), "Divide", p, p)
		}
		polynomial.Equal(p, p)
		polynomial.Degree(p, 0)
		polynomial.Format(p, []string{"a", "b", "c", "d", "e", "f", "g", "h"})
		if !samePoly(p, keep) {
			t.Fatalf("the argument %v became %v", keep, p)
		}
	}
}
