package polynomial_test

import (
	"math"
	"math/big"
	"math/rand/v2"
	"slices"
	"testing"

	"exactppl/api"
	"exactppl/rational"
)

// A reference is a polynomial in another representation: its coefficients, some of which may be zero.
type reference map[api.Mono]*big.Rat

func toInt(a []uint32) *big.Int {
	n := new(big.Int)
	for _, limb := range slices.Backward(a) {
		n.Lsh(n, 32).Or(n, new(big.Int).SetUint64(uint64(limb)))
	}
	return n
}

// toBig returns the number that a denotes.
func toBig(a api.Rat) *big.Rat {
	num, den := toInt(a.Num), toInt(a.Den)
	if den.Sign() == 0 {
		return new(big.Rat)
	}
	if a.Neg {
		num.Neg(num)
	}
	return new(big.Rat).SetFrac(num, den)
}

// fromBig returns the normal form of x.
func fromBig(x *big.Rat) api.Rat {
	split := func(n *big.Int) []uint32 {
		var a []uint32
		for n = new(big.Int).Abs(n); n.Sign() > 0; n.Rsh(n, 32) {
			a = append(a, uint32(new(big.Int).And(n, big.NewInt(math.MaxUint32)).Uint64()))
		}
		return a
	}
	return api.Rat{Neg: x.Sign() < 0, Num: split(x.Num()), Den: split(x.Denom())}
}

func sameRat(a, b api.Rat) bool {
	return a.Neg == b.Neg && slices.Equal(a.Num, b.Num) && slices.Equal(a.Den, b.Den)
}

// samePoly compares all fields.
func samePoly(p, q api.Poly) bool {
	return slices.EqualFunc(p, q, func(a, b api.Term) bool { return a.Mono == b.Mono && sameRat(a.Coef, b.Coef) })
}

// toRef returns the polynomial that p denotes.
func toRef(p api.Poly) reference {
	r := reference{}
	for _, t := range p {
		r.add(t.Mono, toBig(t.Coef))
	}
	return r
}

func (r reference) add(m api.Mono, c *big.Rat) {
	if r[m] == nil {
		r[m] = new(big.Rat)
	}
	r[m] = new(big.Rat).Add(r[m], c)
}

// normal returns the normal form of r, with a sort of its own.
func (r reference) normal() api.Poly {
	var p api.Poly
	for m, c := range r {
		if c.Sign() != 0 {
			p = append(p, api.Term{Mono: m, Coef: fromBig(c)})
		}
	}
	slices.SortFunc(p, func(a, b api.Term) int {
		for v := range a.Mono {
			if a.Mono[v] != b.Mono[v] {
				return b.Mono[v] - a.Mono[v]
			}
		}
		return 0
	})
	return p
}

func (r reference) scaled(c *big.Rat) reference {
	s := reference{}
	for m, d := range r {
		s.add(m, new(big.Rat).Mul(d, c))
	}
	return s
}

func (r reference) plus(q reference) reference {
	s := reference{}
	for _, part := range []reference{r, q} {
		for m, c := range part {
			s.add(m, c)
		}
	}
	return s
}

func (r reference) minus(q reference) reference { return r.plus(q.scaled(big.NewRat(-1, 1))) }

func (r reference) times(q reference) reference {
	s := reference{}
	for m, c := range r {
		for n, d := range q {
			product := m
			for v := range n {
				product[v] += n[v]
			}
			s.add(product, new(big.Rat).Mul(c, d))
		}
	}
	return s
}

func (r reference) power(n int) reference {
	s := reference{api.Mono{}: big.NewRat(1, 1)}
	for range n {
		s = s.times(r)
	}
	return s
}

// insert returns r with q in the place of v, term by term.
func (r reference) insert(v int, q reference) reference {
	s := reference{}
	for m, c := range r {
		exp := m[v]
		m[v] = 0
		s = s.plus(reference{m: c}.times(q.power(exp)))
	}
	return s
}

func (r reference) derivative(v int) reference {
	s := reference{}
	for m, c := range r {
		if m[v] > 0 {
			factor := big.NewRat(int64(m[v]), 1)
			m[v]--
			s.add(m, factor.Mul(factor, c))
		}
	}
	return s
}

// value returns the value of r at a point with an element for each variable.
func (r reference) value(x []*big.Rat) *big.Rat {
	total := new(big.Rat)
	for m, c := range r {
		product := new(big.Rat).Set(c)
		for v, exp := range m {
			for range exp {
				product.Mul(product, x[v])
			}
		}
		total.Add(total, product)
	}
	return total
}

// term is c a^i b^j, a and b being the variables 0 and 1.
func term(c, i, j int) api.Term {
	return api.Term{Mono: api.Mono{i, j}, Coef: rational.Int(c)}
}

// power is v^exp.
func power(v, exp int) api.Poly {
	t := term(1, 0, 0)
	t.Mono[v] = exp
	return api.Poly{t}
}

// join returns the sum of polynomials as a list of all their terms.
func join(parts ...api.Poly) api.Poly { return slices.Concat(parts...) }

// check reports an error, and a result that is not the normal form of want.
func check(t *testing.T, got api.Poly, e api.Errno, want reference, call string, args ...any) {
	t.Helper()
	if e != api.OK {
		t.Fatalf("%s%v: error %d", call, args, e)
	}
	if normal := want.normal(); !samePoly(got, normal) {
		t.Fatalf("%s%v is %v, not %v", call, args, got, normal)
	}
}

// checkError reports an error other than want, and a result beside the error.
func checkError(t *testing.T, e, want api.Errno, result api.Poly, call string, args ...any) {
	t.Helper()
	if e != want || len(result) != 0 {
		t.Fatalf("%s%v: error %d, not %d; the result %v", call, args, e, want, result)
	}
}

// randomRat returns a small number in any representation: not in lowest terms, with zero limbs, or with the denominator zero.
func randomRat(r *rand.Rand) api.Rat {
	a := api.Rat{Neg: r.IntN(2) == 0, Num: []uint32{uint32(r.IntN(9))}, Den: []uint32{uint32(r.IntN(5))}}
	switch r.IntN(6) {
	case 0:
		a.Num, a.Den = append(a.Num, 0), append(a.Den, 0, 0)
	case 1:
		a.Num = append(a.Num, r.Uint32())
	case 2:
		a.Den = nil
	}
	return a
}

// random returns a polynomial of at most n terms, in any order, often with several terms of one monomial and terms that are zero.
func random(r *rand.Rand, n, exp int) api.Poly {
	var p api.Poly
	for range r.IntN(n + 1) {
		t := api.Term{Coef: randomRat(r)}
		for range r.IntN(3) {
			t.Mono[[]int{0, 1, 2, 7}[r.IntN(4)]] = r.IntN(exp + 1)
		}
		p = append(p, t)
		switch r.IntN(5) {
		case 0:
			p = append(p, api.Term{Mono: t.Mono, Coef: rational.Neg(t.Coef)})
		case 1:
			p = append(p, api.Term{Mono: t.Mono, Coef: randomRat(r)})
		}
	}
	r.Shuffle(len(p), func(i, j int) { p[i], p[j] = p[j], p[i] })
	return p
}

// polys returns polynomials of all forms.
func polys() []api.Poly {
	l := []api.Poly{nil, {}, {term(0, 4, 0)}, {{}}, {term(1, 2, 0), term(-1, 2, 0)}, {term(1, 0, 0)}, {term(-3, 0, 0)}, {term(1, 1, 0)}, {term(1, 0, 1), term(1, 1, 0)}, power(7, 3), {{Mono: api.Mono{2, 1}, Coef: api.Rat{Neg: true, Num: []uint32{4, 0}, Den: []uint32{6}}}}}
	r := rand.New(rand.NewPCG(1, 2))
	for range 40 {
		l = append(l, random(r, 6, 3))
	}
	return l
}

// invalid returns polynomials that are not valid.
func invalid() []api.Poly {
	l := []api.Poly{{term(0, -1, 0)}, {term(0, 0, api.MaxExp+1)}, {term(1, math.MaxInt, 0)}, {term(1, 0, math.MinInt)}, {term(1, 1, 0), {Mono: api.Mono{7: -1}}}, {term(1, api.MaxExp+1, 0), term(-1, api.MaxExp+1, 0)}}
	for v := range api.MaxVars {
		l = append(l, power(v, -1), power(v, api.MaxExp+1), join(power(v, 1), power(v, api.MaxExp+1)))
	}
	return l
}
