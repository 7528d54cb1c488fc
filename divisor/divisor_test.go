package divisor_test

import (
	"math/rand/v2"
	"testing"

	"exactppl/api"
	"exactppl/divisor"
	"exactppl/polynomial"
	"exactppl/rational"
)

// factors are irreducible polynomials, of which none is another one times a number.
func factors() []api.Poly {
	return []api.Poly{
		{term(1, 1)},
		{term(1, 0, 1)},
		{last(1, 1)},
		{term(1, 1), term(1)},
		{term(2, 1), term(-3)},
		{term(1, 1), term(1, 0, 1)},
		{term(1, 1), term(-1, 0, 1)},
		{term(1, 2), term(1)},
		{term(1, 4), term(-2)},
		{term(1, 0, 3), term(-2)},
		{term(1, 1, 1), term(1)},
		{term(1, 1, 1), term(-1, 0, 0, 1)},
		{term(1, 2), term(1, 0, 2), term(1)},
		{term(5, 3), term(1, 0, 1, 1), term(2)},
		{last(1, 1), term(1, 1), term(-7, 0, 1)},
		{last(3, 2), term(1)},
		{last(1, 1), term(1, 2, 1, 3)},
		{last(1, 1), term(1, 0, 1, 1, 1, 1, 1), term(1000003)},
	}
}

// A pair is two polynomials that are given by how often each factor occurs.
type pair struct {
	p, q     api.Poly
	inP, inQ []int
}

// randomPair returns two products of few factors and numbers.
func randomPair(r *rand.Rand) pair {
	l := factors()
	x := pair{inP: make([]int, len(l)), inQ: make([]int, len(l))}
	for range r.IntN(5) {
		x.inP[r.IntN(len(l))]++
	}
	for range r.IntN(4) {
		x.inQ[r.IntN(len(l))]++
	}
	both := r.IntN(len(l))
	x.inP[both] += r.IntN(3)
	x.inQ[both] += r.IntN(3)
	x.p = must(polynomial.Scale(x.joined(func(p, q int) int { return p }), randomRat(r)))
	x.q = must(polynomial.Scale(x.joined(func(p, q int) int { return q }), randomRat(r)))
	return x
}

// joined returns the product of the factors, each as often as choose says.
func (x pair) joined(choose func(inP, inQ int) int) api.Poly {
	p := number(1)
	for i, f := range factors() {
		p = product(p, power(f, choose(x.inP[i], x.inQ[i])))
	}
	return p
}

func least(a, b int) int    { return min(a, b) }
func greatest(a, b int) int { return max(a, b) }

// P4.1

func TestMonic(t *testing.T) {
	r := rand.New(rand.NewPCG(1, 2))
	for _, c := range []struct{ p, want api.Poly }{
		{nil, nil},
		{api.Poly{}, nil},
		{api.Poly{term(0, 3), term(2, 1), term(-2, 1)}, nil},
		{number(-7), number(1)},
		{api.Poly{term(-4, 1), term(2)}, api.Poly{term(1, 1), {Coef: api.Rat{Neg: true, Num: []uint32{1}, Den: []uint32{2}}}}},
		{api.Poly{term(1, 0, 9), term(3, 1)}, api.Poly{term(1, 1), {Mono: api.Mono{0, 9}, Coef: api.Rat{Num: []uint32{1}, Den: []uint32{3}}}}},
		{api.Poly{last(5, api.MaxExp)}, api.Poly{last(1, api.MaxExp)}},
	} {
		got, e := divisor.Monic(c.p)
		check(t, got, e, c.want, "Monic", c.p)
	}
	for range 200 {
		p := random(r, 4, 6, 5)
		got, e := divisor.Monic(disguise(r, p))
		check(t, got, e, monic(p), "Monic", p)
	}
}

func TestProducts(t *testing.T) {
	r := rand.New(rand.NewPCG(3, 4))
	for range 600 {
		x := randomPair(r)
		common := monic(x.joined(least))
		got, e := divisor.GCD(disguise(r, x.p), disguise(r, x.q))
		check(t, got, e, common, "GCD", x.p, x.q)
		got, e = divisor.LCM(disguise(r, x.p), disguise(r, x.q))
		check(t, got, e, monic(x.joined(greatest)), "LCM", x.p, x.q)
		coprime, e := divisor.Coprime(x.p, x.q)
		if e != api.OK || coprime != samePoly(common, number(1)) {
			t.Fatalf("Coprime of %s and %s is %v, error %d", text(x.p), text(x.q), coprime, e)
		}
	}
}

// Every pair of factors, also of one with itself.
func TestFactors(t *testing.T) {
	for i, p := range factors() {
		for j, q := range factors() {
			want := number(1)
			if i == j {
				want = p
			}
			got, e := divisor.GCD(p, q)
			check(t, got, e, monic(want), "GCD", p, q)
			coprime, e := divisor.Coprime(p, q)
			if e != api.OK || coprime != (i != j) {
				t.Errorf("Coprime of %s and %s is %v, error %d", text(p), text(q), coprime, e)
			}
		}
	}
}

func TestZeroAndNumbers(t *testing.T) {
	zero := api.Poly{term(0, 2), term(3, 1), term(-3, 1)}
	x := api.Poly{term(-3, 1), term(6)}
	for _, c := range []struct {
		p, q, gcd, lcm api.Poly
		coprime        bool
	}{
		{nil, nil, nil, nil, false},
		{zero, zero, nil, nil, false},
		{zero, x, monic(x), nil, false},
		{number(-5), zero, number(1), nil, true},
		{number(6), number(4), number(1), number(1), true},
		{number(6), x, number(1), monic(x), true},
		{x, x, monic(x), monic(x), false},
		{x, must(polynomial.Scale(x, rational.Int(-9))), monic(x), monic(x), false},
	} {
		for _, args := range [][2]api.Poly{{c.p, c.q}, {c.q, c.p}} {
			got, e := divisor.GCD(args[0], args[1])
			check(t, got, e, c.gcd, "GCD", args[0], args[1])
			got, e = divisor.LCM(args[0], args[1])
			check(t, got, e, c.lcm, "LCM", args[0], args[1])
			coprime, e := divisor.Coprime(args[0], args[1])
			if e != api.OK || coprime != c.coprime {
				t.Errorf("Coprime of %s and %s is %v, error %d", text(args[0]), text(args[1]), coprime, e)
			}
		}
	}
}

// A greatest common divisor of any size, with cofactors of any size: dense, sparse, in all variables, with large exponents and large coefficients.
func TestGreatest(t *testing.T) {
	r := rand.New(rand.NewPCG(5, 6))
	for _, c := range []struct{ variables, terms, exp int }{
		{1, 3, 4}, {1, 30, 25}, {1, 5, 200}, {2, 3, 3}, {2, 40, 7}, {2, 6, 60}, {3, 4, 3}, {3, 30, 3}, {3, 5, 50}, {5, 6, 4}, {8, 3, 2}, {8, 8, 6}, {8, 6, 40},
	} {
		for range 4 {
			g := random(r, c.variables, 1+r.IntN(c.terms), c.exp)
			p := product(g, random(r, c.variables, 1+r.IntN(c.terms), c.exp))
			q := product(g, random(r, c.variables, 1+r.IntN(c.terms), c.exp))
			got, e := divisor.GCD(p, q)
			if len(p) == 0 || len(q) == 0 {
				check(t, got, e, monic(sum(p, q)), "GCD", p, q)
				continue
			}
			if e != api.OK {
				t.Fatalf("GCD of %s and %s: error %d", text(p), text(q), e)
			}
			checkGreatest(t, got, p, q)
		}
	}
}

func TestLargeCoefficients(t *testing.T) {
	large, _ := rational.Pow(rational.Int(1<<62+12345), 40)
	other, _ := rational.Pow(rational.Int(1<<61+777), 33)
	ratio, _ := rational.Div(large, other)
	for _, c := range []api.Rat{large, ratio, rational.Int(4611686018427387847)} { // the last one is a prime
		g := api.Poly{term(1, 2), {Mono: api.Mono{1, 1}, Coef: c}, {Mono: api.Mono{0, 3}, Coef: rational.Neg(c)}, term(5)}
		a := api.Poly{{Mono: api.Mono{1}, Coef: c}, term(1, 0, 1)}
		b := api.Poly{term(1, 1), {Mono: api.Mono{0, 2}, Coef: rational.Mul(c, c)}}
		for _, x := range [][2]api.Poly{{a, b}, {b, a}, {a, nil}, {a, number(1)}, {number(3), b}} {
			p, q := product(g, x[0]), product(g, x[1])
			got, e := divisor.GCD(p, q)
			want := g
			if len(q) == 0 {
				want = p
			}
			check(t, got, e, monic(want), "GCD", p, q)
		}
	}
}

// Exponents that would exceed the limit in remainders, but do not in the result.
func TestLargeExponents(t *testing.T) {
	top := api.MaxExp
	g := api.Poly{term(1, 1, 300), term(1)}
	a := api.Poly{term(1, 3, 700), term(1, 1), term(1, 0, 1)}
	b := api.Poly{term(1, 2), term(1, 1, 724), term(3)}
	for _, c := range []struct{ p, q, want api.Poly }{
		{product(g, a), product(g, b), g},
		{a, b, number(1)},
		{api.Poly{term(3, top, top, top)}, api.Poly{term(5, top, top, top)}, api.Poly{term(1, top, top, top)}},
		{api.Poly{term(1, top, 1)}, api.Poly{term(1, 1, top), term(2, 2, top)}, api.Poly{term(1, 1, 1)}},
		{api.Poly{term(1, top), term(-1)}, api.Poly{term(1, 768), term(-1)}, api.Poly{term(1, 256), term(-1)}},
		{api.Poly{term(1, top), term(-1)}, api.Poly{term(1, 1000), term(-1)}, api.Poly{term(1, 8), term(-1)}},
		{api.Poly{term(1, top), term(-1, 0, top)}, api.Poly{term(1, 1000), term(-1, 0, 1000)}, api.Poly{term(1, 8), term(-1, 0, 8)}},
		{api.Poly{term(1, top), term(-1, 0, 1023)}, api.Poly{term(1, 1023), term(-1, 0, top)}, number(1)},
		{api.Poly{term(1, top), term(1, 0, top), last(1, top)}, api.Poly{term(1, top), term(1, 0, top), last(-1, top)}, number(1)},
		{api.Poly{last(1, top), term(1)}, api.Poly{last(1, top), term(1)}, api.Poly{last(1, top), term(1)}},
	} {
		for _, args := range [][2]api.Poly{{c.p, c.q}, {c.q, c.p}} {
			got, e := divisor.GCD(args[0], args[1])
			check(t, got, e, c.want, "GCD", args[0], args[1])
		}
	}
}

// Leading coefficients, contents and numbers of terms that make the parts of the search large.
func TestManyTerms(t *testing.T) {
	all := api.Poly{last(1, 1), term(1)}
	for i := range api.MaxVars - 1 {
		all = append(all, variable(i+2, i))
	}
	three := api.Poly{term(1, 1), term(2, 0, 1), term(3, 0, 0, 1), term(-1)}
	contents, shifted := number(1), number(1)
	for v := range 6 {
		contents = product(contents, api.Poly{variable(1, v), term(1)})
		shifted = product(shifted, api.Poly{variable(1, v), term(-1)})
	}
	lead := product(three, api.Poly{term(1, 1, 1), term(2, 0, 0, 1), term(5)})
	sixth, square := api.Poly{term(1, 0, 0, 0, 0, 0, 1)}, api.Poly{term(1, 0, 0, 0, 0, 0, 2)}
	for _, c := range [][3]api.Poly{
		{power(three, 12), power(sum(three, number(1)), 3), power(sum(three, number(2)), 3)},
		{power(all, 3), sum(all, number(1)), power(sum(all, number(2)), 2)},
		{contents, shifted, product(sum(contents, number(1)), sum(shifted, number(3)))},
		{three, contents, shifted},
		{sum(product(three, square), sixth, all), sum(product(lead, sixth), number(7)), sum(product(lead, sixth), three)},
	} {
		p, q := product(c[0], c[1]), product(c[0], c[2])
		got, e := divisor.GCD(p, q)
		check(t, got, e, monic(c[0]), "GCD", p, q)
	}
}

func TestLCMLimit(t *testing.T) {
	top := api.MaxExp
	x := api.Poly{term(2, 1), term(2)}
	high := api.Poly{term(1, top)}
	shared := api.Poly{term(1, 600), term(1, 0, 600), term(1)}
	for _, c := range []struct {
		p, q, want api.Poly
		e          api.Errno
	}{
		{high, api.Poly{term(5, 1000)}, high, api.OK},
		{high, api.Poly{term(5, 0, top)}, api.Poly{term(1, top, top)}, api.OK},
		{high, x, nil, api.ErrLimit},
		{high, nil, nil, api.OK},
		{api.Poly{term(1, 1000), term(1)}, api.Poly{term(1, 24), term(3)}, product(api.Poly{term(1, 1000), term(1)}, api.Poly{term(1, 24), term(3)}), api.OK},
		{api.Poly{term(1, 1000), term(1)}, api.Poly{term(1, 25), term(3)}, nil, api.ErrLimit},
		{product(shared, x), product(shared, api.Poly{term(3, 0, 1)}), product(shared, x, api.Poly{term(1, 0, 1)}), api.OK},
		{api.Poly{last(1, top)}, api.Poly{last(1, top), term(1)}, nil, api.ErrLimit},
	} {
		for _, args := range [][2]api.Poly{{c.p, c.q}, {c.q, c.p}} {
			got, e := divisor.LCM(args[0], args[1])
			if c.e != api.OK {
				checkError(t, e, c.e, "LCM", got)
				continue
			}
			check(t, got, e, monic(c.want), "LCM", args[0], args[1])
		}
	}
}

// P4.2

func TestReduce(t *testing.T) {
	r := rand.New(rand.NewPCG(7, 8))
	for range 400 {
		x := randomPair(r)
		wantD := monic(x.joined(func(inP, inQ int) int { return inQ - min(inP, inQ) }))
		wantN := must(polynomial.Divide(product(x.p, wantD), x.q))
		n, d, e := divisor.Reduce(disguise(r, x.p), disguise(r, x.q))
		check(t, n, e, wantN, "the numerator of Reduce", x.p, x.q)
		check(t, d, e, wantD, "the denominator of Reduce", x.p, x.q)
	}
}

func TestReduceEdges(t *testing.T) {
	zero := api.Poly{term(0, 7), term(1, 1), term(-1, 1)}
	half := api.Rat{Num: []uint32{1}, Den: []uint32{2}}
	top := api.Poly{term(1, api.MaxExp, api.MaxExp)}
	for _, c := range []struct{ num, den, n, d api.Poly }{
		{api.Poly{term(2, 1)}, api.Poly{term(4, 1, 1)}, polynomial.Const(half), api.Poly{term(1, 0, 1)}},
		{nil, api.Poly{term(-7, 1)}, nil, number(1)},
		{zero, number(3), nil, number(1)},
		{number(3), number(-6), polynomial.Const(rational.Neg(half)), number(1)},
		{api.Poly{term(1, 1)}, api.Poly{term(2), term(-1, 1)}, api.Poly{term(-1, 1)}, api.Poly{term(1, 1), term(-2)}},
		{top, top, number(1), number(1)},
		{top, api.Poly{term(1, 1), term(1)}, top, api.Poly{term(1, 1), term(1)}},
		{api.Poly{term(1, 1), term(1)}, top, api.Poly{term(1, 1), term(1)}, top},
	} {
		n, d, e := divisor.Reduce(c.num, c.den)
		check(t, n, e, c.n, "the numerator of Reduce", c.num, c.den)
		check(t, d, e, c.d, "the denominator of Reduce", c.num, c.den)
	}
	for _, num := range []api.Poly{nil, zero, number(1), {term(1, 1)}} {
		for _, den := range []api.Poly{nil, {}, zero} {
			n, d, e := divisor.Reduce(num, den)
			checkError(t, e, api.ErrDivide, "Reduce", n, d)
		}
	}
}

func TestExample(t *testing.T) {
	square := api.Poly{term(1, 2), term(2, 1, 1), term(1, 0, 2)}
	p := api.Poly{term(1, 2), term(-1, 0, 2)}
	got, e := divisor.GCD(p, square)
	check(t, got, e, api.Poly{term(1, 1), term(1, 0, 1)}, "GCD", p, square)
}

// The form of both arguments comes before all other errors, and before the results that need no form.
func TestInvalid(t *testing.T) {
	good := []api.Poly{nil, number(1), {term(1, 1)}, {term(1, api.MaxExp), term(1)}}
	for _, bad := range invalid() {
		p, e := divisor.Monic(bad)
		checkError(t, e, api.ErrForm, "Monic", p)
		for _, other := range append(good, bad) {
			for _, args := range [][2]api.Poly{{bad, other}, {other, bad}} {
				p, e := divisor.GCD(args[0], args[1])
				checkError(t, e, api.ErrForm, "GCD", p)
				p, e = divisor.LCM(args[0], args[1])
				checkError(t, e, api.ErrForm, "LCM", p)
				coprime, e := divisor.Coprime(args[0], args[1])
				checkError(t, e, api.ErrForm, "Coprime")
				if coprime {
					t.Error("Coprime is true beside an error")
				}
				n, d, e := divisor.Reduce(args[0], args[1])
				checkError(t, e, api.ErrForm, "Reduce", n, d)
			}
		}
	}
}
