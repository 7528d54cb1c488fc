package measure_test

import (
	"math"
	"math/rand/v2"
	"slices"

	"exactppl/api"
)

// maker makes random arguments.
type maker struct{ *rand.Rand }

func newMaker(seed uint64) *maker { return &maker{rand.New(rand.NewPCG(seed, seed+1))} }

// often reports in one of n cases true.
func (m *maker) often(n int) bool { return m.IntN(n) == 0 }

func pick[T any](m *maker, l ...T) T { return l[m.IntN(len(l))] }

// rat returns a number, not always in normal form, in some cases with zero limbs.
func (m *maker) rat() api.Rat {
	a := api.Rat{Neg: m.often(3), Num: []uint32{uint32(m.IntN(7))}, Den: []uint32{uint32(m.IntN(5))}}
	if m.often(5) {
		a.Num, a.Den = append(a.Num, 0), append(a.Den, 0, 0)
	}
	if m.often(20) {
		a.Num, a.Den = append(a.Num, m.Uint32()), append(a.Den, m.Uint32())
	}
	return a
}

// poly returns a polynomial in few variables, with terms in any order.
func (m *maker) poly() api.Poly {
	var p api.Poly
	for range m.IntN(4) {
		t := api.Term{Coef: m.rat()}
		for v := range m.IntN(3) {
			t.Mono[v] = m.IntN(3)
		}
		if m.often(40) {
			t.Mono[api.MaxVars-1] = 1
		}
		p = append(p, t)
	}
	return p
}

// mass returns a polynomial that is not zero.
func (m *maker) mass() api.Poly {
	for {
		if p := m.poly(); !sumOf(p).isZero() {
			return p
		}
	}
}

// key returns a key of n elements, most of them small.
func (m *maker) key(n int) []int {
	var key []int
	for range n {
		key = append(key, pick(m, -2, 0, 0, 1, 1, 2))
	}
	if n > 0 && m.often(20) {
		key[m.IntN(n)] = pick(m, math.MinInt, math.MaxInt, api.MaxArith)
	}
	return key
}

// measure returns a measure whose keys have n elements.
func (m *maker) measure(n int) api.Measure {
	x := api.Measure{}
	for range m.IntN(6) {
		x.Rows = append(x.Rows, row(m.mass(), m.key(n)...))
	}
	slices.SortFunc(x.Rows, func(a, b api.Row) int { return slices.Compare(a.Key, b.Key) })
	x.Rows = slices.CompactFunc(x.Rows, func(a, b api.Row) bool { return slices.Equal(a.Key, b.Key) })
	if m.often(2) {
		x.Rejected = m.poly()
	}
	if m.often(3) {
		x.Cut = m.poly()
	}
	if m.often(4) {
		m.cancel(&x)
	}
	return x
}

// cancel makes two masses of a measure cancel.
func (m *maker) cancel(x *api.Measure) {
	if len(x.Rows) > 1 {
		i := 1 + m.IntN(len(x.Rows)-1)
		x.Rows[i].Mass = negated(x.Rows[i-1].Mass)
		if m.often(2) {
			x.Rows = x.Rows[i-1 : i+1]
		}
	}
}

// negated returns -p, with its terms in the opposite order.
func negated(p api.Poly) api.Poly {
	p = copyOf(p)
	slices.Reverse(p)
	for i := range p {
		p[i].Coef.Neg = !p[i].Coef.Neg
	}
	return p
}

// arguments returns arguments that are valid.
func (m *maker) arguments() arguments {
	n := m.IntN(4)
	x := arguments{A: m.measure(n), B: m.measure(n), Key: m.key(n), Mass: m.poly()}
	if m.often(8) {
		x.B, x.Key = m.measure(m.IntN(4)), m.key(m.IntN(4))
	}
	if m.often(8) {
		x.B = copyOf(x.A)
	}
	if len(x.A.Rows) > 0 && m.often(2) {
		r := x.A.Rows[m.IntN(len(x.A.Rows))]
		x.Key = slices.Clone(r.Key)
		if m.often(2) {
			x.Mass = negated(r.Mass)
		}
	}
	if len(x.A.Rows) > 0 && len(x.B.Rows) > 0 && m.often(2) { // masses of the sum cancel
		r, s := x.A.Rows[m.IntN(len(x.A.Rows))], &x.B.Rows[m.IntN(len(x.B.Rows))]
		if place := slices.IndexFunc(x.B.Rows, func(s api.Row) bool { return slices.Equal(s.Key, r.Key) }); place >= 0 {
			s = &x.B.Rows[place]
		}
		s.Mass = negated(r.Mass)
	}
	for range m.IntN(4) {
		x.Cells = append(x.Cells, m.IntN(max(n, 1)))
	}
	if m.often(10) {
		x.Cells = append(x.Cells, pick(m, -1, n, 9, math.MinInt, math.MaxInt))
	}
	x.Cell, x.N = m.IntN(max(n, 1)), pick(m, 0, 1, 2, 3, api.MaxPower)
	if m.often(10) {
		x.Cell = pick(m, -1, n, math.MinInt, math.MaxInt)
	}
	if m.often(10) {
		x.N = pick(m, -1, api.MaxPower+1, math.MinInt, math.MaxInt)
	}
	for range m.IntN(4) {
		x.X = append(x.X, m.rat())
	}
	if m.often(20) {
		x.X = append(x.X, make([]api.Rat, api.MaxVars-len(x.X)+m.IntN(2))...)
	}
	return x
}

// power returns a term with an exponent of a variable.
func (m *maker) power(v, exp int) api.Term {
	t := api.Term{Coef: m.rat()}
	t.Mono[v] = exp
	return t
}

// damage makes something not valid, or large.
func (m *maker) damage(x *arguments) {
	a := pick(m, &x.A, &x.A, &x.B)
	masses := []*api.Poly{&x.Mass, &a.Rejected, &a.Cut}
	for i := range a.Rows {
		masses = append(masses, &a.Rows[i].Mass)
	}
	p := pick(m, masses...)
	switch m.IntN(8) {
	case 0:
		*p = append(*p, m.power(m.IntN(api.MaxVars), pick(m, -1, api.MaxExp+1)))
	case 1, 2: // at the limit
		x.Mass = append(x.Mass, m.power(m.IntN(2), pick(m, api.MaxExp, api.MaxExp-1, api.MaxExp-2)))
	case 3:
		*p = pick(m, zeros...)
	default:
		if len(a.Rows) > 0 {
			i, j := m.IntN(len(a.Rows)), m.IntN(len(a.Rows))
			switch m.IntN(4) {
			case 0:
				a.Rows[i], a.Rows[j] = a.Rows[j], a.Rows[i]
			case 1:
				a.Rows = slices.Insert(a.Rows, i, a.Rows[j])
			case 2:
				a.Rows[i].Key = m.key(m.IntN(4))
			default:
				a.Rows[i].Key = append(slices.Clone(a.Rows[i].Key), 0)
			}
		}
	}
}
