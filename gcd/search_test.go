package gcd

import (
	"math/big"
	"math/rand/v2"
	"slices"
	"testing"

	"exactppl/api"
	"exactppl/rational"
	"exactppl/wide"
)

// The parts of the search, and what is unlikely in a search: primes and points that are roots of what they must not be roots of.

func toBig(f field) *big.Int { return new(big.Int).SetUint64(uint64(f)) }

func TestPrimes(t *testing.T) {
	f := firstField
	if !toBig(f).ProbablyPrime(20) {
		t.Fatal("the first field has no prime")
	}
	for range 30 {
		next := f.next()
		for n := f - 1; n > next; n-- {
			if toBig(n).ProbablyPrime(20) {
				t.Fatal("next of", f, "omits", n)
			}
		}
		if next >= f || !toBig(next).ProbablyPrime(20) {
			t.Fatal("next of", f, "is", next)
		}
		f = next
	}
}

// Numbers that some of the bases take for primes, and products of two primes.
func TestPseudoprimes(t *testing.T) {
	for _, n := range []field{3215031751, 3474749660383, 341550071728321, 3825123056546413051, 2147483647 * 2147483629, 1073741789 * 1073741783} {
		if n.isPrime() {
			t.Error(n, "is no prime")
		}
	}
}

func TestResidues(t *testing.T) {
	r := rand.New(rand.NewPCG(1, 2))
	for range 500 {
		a := rational.Int(int(r.Int64()) - 1<<62)
		a, _ = rational.Pow(a, r.IntN(5))
		want, _ := new(big.Int).SetString(rational.Format(a), 10)
		want.Mod(want, toBig(firstField))
		got := firstField.residue(a)
		if got != want.Uint64() {
			t.Fatal("the residue of", rational.Format(a), "is not", got)
		}
		if n := firstField.signed(got); firstField.residue(rational.Int(n)) != got || 2*max(n, -n) > int(firstField) {
			t.Fatal("the integer next to zero with the residue", got, "is not", n)
		}
	}
}

func TestSolve(t *testing.T) {
	f := firstField.next()
	r := rand.New(rand.NewPCG(3, 4))
	number := func() uint64 { return 1 + r.Uint64N(uint64(f)-1) }
	for n := range 12 {
		var nodes, coefs, values []uint64
		for range n {
			nodes, coefs = append(nodes, number()), append(coefs, number())
		}
		for s := range n {
			values = append(values, f.element(coefs, nodes, s))
		}
		if got, ok := f.solve(nodes, values); !ok || !slices.Equal(got, coefs) {
			t.Fatal("the coefficients", got, "are not", coefs)
		}
		if n < 2 {
			continue
		}
		for _, bad := range []uint64{nodes[1], 0} {
			nodes[0] = bad
			if got, ok := f.solve(nodes, values); ok || got != nil {
				t.Fatal("nodes that do not determine coefficients", got)
			}
		}
	}
}

// spread returns a recurrence with count values of a sequence with the given powers of number as nodes.
func spread(f field, number uint64, powers []int, count int) recurrence {
	var nodes, coefs []uint64
	for i, exp := range powers {
		nodes, coefs = append(nodes, f.power(number, uint64(exp))), append(coefs, uint64(3*i+1))
	}
	r := newRecurrence(f)
	for s := range count {
		r.extend(f.element(coefs, nodes, s))
	}
	return r
}

func TestRecurrences(t *testing.T) {
	f := firstField
	number := f.point()[3]
	for _, want := range [][]int{nil, {0}, {5}, {0, 1, 2, 3}, {1, 17, 90}, {2, 3, 50, 99, 100}} {
		r := spread(f, number, want, 2*len(want)+2)
		got, ok := r.powers(number, 100)
		if !ok || !slices.Equal(got, want) {
			t.Errorf("the powers %v, %v are not %v", got, ok, want)
		}
		if len(want) > 0 {
			if got, ok := r.powers(number, want[len(want)-1]-1); ok {
				t.Errorf("the powers %v are not all of %v", got, want)
			}
			few := spread(f, number, want, 2*len(want)+1)
			if got, ok := few.powers(number, 7); !ok || !slices.Equal(got, []int{0, 1, 2, 3, 4, 5, 6, 7}) {
				t.Errorf("too few values, but the powers %v, %v", got, ok)
			}
		}
	}
}

func sumOf(l ...api.Poly) api.Poly { return wide.Norm(slices.Concat(l...)) }

func productOf(l ...api.Poly) api.Poly {
	p := one()
	for _, q := range l {
		p = wide.Mul(p, q)
	}
	return p
}

// times returns c times the powers of the variables 0, 1 and so on.
func times(c api.Rat, exps ...int) api.Poly {
	t := api.Term{Coef: c}
	copy(t.Mono[:], exps)
	return api.Poly{t}
}

func word(w uint64) api.Rat { return rational.Int(int(w)) }

// Common divisors that a search meets only after bad luck.
func TestBadLuck(t *testing.T) {
	first, second := word(uint64(firstField)), word(uint64(firstField.next()))
	at, atSecond := firstField.point(), firstField.next().point()
	x, y := times(word(1), 1), times(word(1), 0, 1)
	root := sumOf(y, times(rational.Neg(word(at[1])))) // zero at the first point
	rootX := sumOf(x, times(rational.Neg(word(at[0]))))
	secondRoot := sumOf(y, times(rational.Neg(word(atSecond[1]))))
	squares := word(firstField.mul(at[1], at[1]))
	for name, g := range map[string]api.Poly{
		"a coefficient is zero modulo the first prime":          sumOf(x, times(first, 0, 1), one()),
		"the leading coefficient is zero modulo the prime":      sumOf(times(first, 1), y, one()),
		"all is a number modulo the prime":                      sumOf(times(first, 2, 1), times(first, 0, 3), one()),
		"a coefficient of many is zero modulo the prime":        sumOf(x, times(first, 0, 2), y, times(word(7), 0, 3), one()),
		"a coefficient is small modulo the first two primes":    sumOf(x, times(rational.Add(word(1), rational.Mul(first, second)), 0, 1), one()),
		"the leading coefficient is zero at the first point":    sumOf(productOf(root, x), one()),
		"the other leading coefficient is zero at the point":    sumOf(productOf(rootX, y), one()),
		"a coefficient is zero at the first point":              sumOf(times(word(1), 2), productOf(root, x), y, one()),
		"a coefficient is zero at the first power of the point": sumOf(times(word(1), 2), productOf(sumOf(y, times(rational.Neg(squares))), x), y),
		"the leading coefficient is zero at the next point too": sumOf(productOf(root, secondRoot, x), rootX),
		"no bad luck": sumOf(productOf(x, y), one()),
	} {
		a, b := sumOf(x, y, one()), sumOf(times(word(1), 2), times(word(3), 0, 2), times(word(2)))
		p, q := productOf(g, a), productOf(g, b)
		if got := Of(p, q); !same(got, Monic(g)) {
			t.Errorf("%s: not the greatest common divisor", name)
		}
	}
}

// A sample notices that it cannot be right.
func TestWrongSamples(t *testing.T) {
	a := sumOf(times(word(1), 1), times(word(2), 0, 3), times(word(5), 0, 1))
	p := problem{a: a, b: a, lead: one(), kept: 0, others: []int{1}, most: api.Mono{1, 3}}
	for most, want := range []bool{false, false, false, true, true} {
		p.most[1] = most
		s := sample{field: firstField, problem: &p, point: firstField.point(), degree: unknown}
		if form, coefs, ok := s.explore(); ok != want || !ok && len(form)+len(coefs) > 0 {
			t.Error("the greatest exponent", most, "gives", form, coefs, ok)
		}
	}
	s := sample{field: firstField, problem: &p, point: firstField.point(), degree: 1}
	for _, form := range []shape{{{{0, 1}}}, {{{0, 1}, {0, 2}}}, {{{0, 1}, {0, 3}, {0, 3}}}, {nil}} {
		if coefs, ok := s.fit(form, only(1)); ok {
			t.Error("the shape", form, "has the coefficients", coefs)
		}
	}
	if coefs, ok := s.fit(shape{{{0, 1}, {0, 3}, {0, 7}}}, only(1)); !ok || !slices.Equal(coefs[0], []uint64{5, 2, 0}) {
		t.Error("a monomial too many gives", coefs, ok)
	}
	s.degree = 2
	if coefs, ok := s.fit(shape{{{0, 1}, {0, 3}}, nil}, only(1)); ok {
		t.Error("a wrong degree gives", coefs)
	}
}

// Cofactors that are coprime, but not modulo the first prime, or not at the first point.
func TestUnluckyCofactors(t *testing.T) {
	first, at := word(uint64(firstField)), firstField.point()
	x, y := times(word(1), 1), times(word(1), 0, 1)
	g := sumOf(times(word(1), 2, 1), times(word(5), 1), times(word(3), 0, 1), one())
	a := sumOf(x, y)
	for name, b := range map[string]api.Poly{
		"equal modulo the first prime": sumOf(x, y, times(first)),
		"equal at the first point":     sumOf(x, times(word(2), 0, 1), times(rational.Neg(word(at[1])))),
		"equal along a line":           sumOf(times(word(2), 1), y, times(rational.Neg(word(at[0])))),
	} {
		got := Of(productOf(g, a), productOf(g, b))
		if !same(got, g) {
			t.Errorf("%s: not the greatest common divisor", name)
		}
		if got := greatest(a, b); !isConstant(got) {
			t.Errorf("%s: not coprime", name)
		}
	}
}
