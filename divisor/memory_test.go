package divisor_test

import (
	"math/rand/v2"
	"slices"
	"testing"

	"exactppl/api"
	"exactppl/divisor"
)

// R3, R5 and the rule that results are new memory

// wide returns a copy of p with other numbers in the memory behind all its lists.
func wide(p api.Poly) api.Poly {
	limbs := func(a []uint32) []uint32 { return append(slices.Clone(a), 77, 78)[:len(a)] }
	var q api.Poly
	for _, t := range append(slices.Clone(p), term(79, 1, 2)) {
		t.Coef.Num, t.Coef.Den = limbs(t.Coef.Num), limbs(t.Coef.Den)
		q = append(q, t)
	}
	return q[:len(p)]
}

// whole returns p with the term behind it, and all limbs with those behind them.
func whole(p api.Poly) api.Poly {
	q := slices.Clone(p[:len(p)+1])
	for i, t := range q {
		q[i].Coef.Num = t.Coef.Num[:len(t.Coef.Num)+2]
		q[i].Coef.Den = t.Coef.Den[:len(t.Coef.Den)+2]
	}
	return q
}

// results calls all functions whose results have memory.
func results(p, q api.Poly) [][]api.Poly {
	monic, _ := divisor.Monic(p)
	gcd, _ := divisor.GCD(p, q)
	lcm, _ := divisor.LCM(p, q)
	n, d, _ := divisor.Reduce(p, q)
	divisor.Coprime(p, q)
	return [][]api.Poly{{monic}, {gcd}, {lcm}, {n, d}}
}

// overwrite writes into all memory of a result, and reports two of its lists that share memory.
func overwrite(t *testing.T, l []api.Poly) {
	t.Helper()
	var lists [][]uint32
	for _, p := range l {
		for _, u := range p {
			lists = append(lists, u.Coef.Num[:cap(u.Coef.Num)], u.Coef.Den[:cap(u.Coef.Den)])
		}
	}
	for i, list := range lists {
		for j := range list {
			list[j] = uint32(i)
		}
	}
	for i, list := range lists {
		if slices.ContainsFunc(list, func(x uint32) bool { return x != uint32(i) }) {
			t.Fatal("two numbers of a result share memory")
		}
	}
	for i, p := range l {
		for j := range p[:cap(p)] {
			p[:cap(p)][j] = api.Term{Mono: api.Mono{i, j}}
		}
	}
	for i, p := range l {
		for j, u := range p {
			if u.Mono != (api.Mono{i, j}) {
				t.Fatal("two polynomials of a result share memory")
			}
		}
	}
}

func TestMemory(t *testing.T) {
	r := rand.New(rand.NewPCG(15, 16))
	pairs := [][2]api.Poly{{nil, nil}, {nil, number(3)}, {number(3), nil}, {number(1), number(1)}, {factors()[4], factors()[4]}, {power(factors()[4], 2), factors()[4]}, {monic(factors()[13]), number(1)}}
	for range 60 {
		x := randomPair(r)
		pairs = append(pairs, [2]api.Poly{x.p, x.q}, [2]api.Poly{disguise(r, x.p), disguise(r, x.q)})
	}
	for _, c := range pairs {
		p, q := wide(c[0]), wide(c[1])
		got, want := results(p, q), results(c[0], c[1])
		for i, l := range got {
			if !slices.EqualFunc(l, want[i], samePoly) {
				t.Fatalf("the result %d of %s and %s differs from that of a copy", i, text(p), text(q))
			}
			overwrite(t, l)
		}
		if !samePoly(whole(p), whole(wide(c[0]))) || !samePoly(whole(q), whole(wide(c[1]))) {
			t.Fatalf("an argument changed: %s, %s", text(c[0]), text(c[1]))
		}
	}
}

// One list may be both arguments.
func TestSameArgument(t *testing.T) {
	for _, p := range factors() {
		before := wide(p)
		got, e := divisor.GCD(p, p)
		check(t, got, e, monic(p), "GCD", p, p)
		got, e = divisor.LCM(p, p)
		check(t, got, e, monic(p), "LCM", p, p)
		n, d, e := divisor.Reduce(p, p)
		check(t, n, e, number(1), "the numerator of Reduce", p, p)
		check(t, d, e, number(1), "the denominator of Reduce", p, p)
		if !samePoly(p, before) {
			t.Fatalf("the argument %s became %s", text(before), text(p))
		}
	}
}
