package measure_test

import (
	"fmt"
	"math"
	"math/big"
	"slices"
	"testing"

	"exactppl/api"
	"exactppl/measure"
	"exactppl/ratfunc"
)

// A sum is a polynomial in another representation: its coefficients, some of which may be zero.
type sum map[api.Mono]*big.Rat

func toInt(a []uint32) *big.Int {
	n := new(big.Int)
	for _, limb := range slices.Backward(a) {
		n.Lsh(n, 32).Or(n, new(big.Int).SetUint64(uint64(limb)))
	}
	return n
}

// toBig returns the number that a denotes.
func toBig(a api.Rat) *big.Rat {
	num, den := toInt(a.Num), toInt(a.Den)
	if den.Sign() == 0 {
		return new(big.Rat)
	}
	if a.Neg {
		num.Neg(num)
	}
	return new(big.Rat).SetFrac(num, den)
}

// fromBig returns the normal form of x.
func fromBig(x *big.Rat) api.Rat {
	split := func(n *big.Int) []uint32 {
		var a []uint32
		for n = new(big.Int).Abs(n); n.Sign() > 0; n.Rsh(n, 32) {
			a = append(a, uint32(new(big.Int).And(n, big.NewInt(math.MaxUint32)).Uint64()))
		}
		return a
	}
	return api.Rat{Neg: x.Sign() < 0, Num: split(x.Num()), Den: split(x.Denom())}
}

func (s sum) add(m api.Mono, c *big.Rat) {
	if s[m] == nil {
		s[m] = new(big.Rat)
	}
	s[m].Add(s[m], c)
}

// sumOf returns the polynomial that some polynomials denote together.
func sumOf(l ...api.Poly) sum {
	s := sum{}
	for _, p := range l {
		for _, t := range p {
			s.add(t.Mono, toBig(t.Coef))
		}
	}
	return s
}

func (s sum) times(u sum) sum {
	out := sum{}
	for m, c := range s {
		for n, d := range u {
			both := m
			for v := range n {
				both[v] += n[v]
			}
			out.add(both, new(big.Rat).Mul(c, d))
		}
	}
	return out
}

// value returns the value at x.
func (s sum) value(x []api.Rat) *big.Rat {
	total := new(big.Rat)
	for m, c := range s {
		part := new(big.Rat).Set(c)
		for v, exp := range m {
			for range exp {
				at := new(big.Rat)
				if v < len(x) {
					at = toBig(x[v])
				}
				part.Mul(part, at)
			}
		}
		total.Add(total, part)
	}
	return total
}

// normal returns the normal form, with a sort of its own.
func (s sum) normal() api.Poly {
	var p api.Poly
	for m, c := range s {
		if c.Sign() != 0 {
			p = append(p, api.Term{Mono: m, Coef: fromBig(c)})
		}
	}
	slices.SortFunc(p, func(a, b api.Term) int {
		for v := range a.Mono {
			if a.Mono[v] != b.Mono[v] {
				return b.Mono[v] - a.Mono[v]
			}
		}
		return 0
	})
	return p
}

func (s sum) isZero() bool { return len(s.normal()) == 0 }

// isValid reports whether a polynomial is valid.
func isValid(p api.Poly) bool {
	for _, t := range p {
		for _, exp := range t.Mono {
			if exp < 0 || exp > api.MaxExp {
				return false
			}
		}
	}
	return true
}

// less reports whether a is before b.
func less(a, b []int) bool {
	for i := range min(len(a), len(b)) {
		if a[i] != b[i] {
			return a[i] < b[i]
		}
	}
	return len(a) < len(b)
}

// isMeasure reports whether a measure is valid, as the chapter says it.
func isMeasure(m api.Measure) bool {
	valid := isValid(m.Rejected) && isValid(m.Cut)
	for i, a := range m.Rows {
		valid = valid && isValid(a.Mass) && !sumOf(a.Mass).isZero()
		for j, b := range m.Rows {
			valid = valid && len(a.Key) == len(b.Key) && (i >= j || less(a.Key, b.Key))
		}
	}
	return valid
}

// A table is a measure in another representation: the masses for the texts of the keys, some of which may be zero.
type table struct {
	keys          map[string][]int
	masses        map[string]sum
	rejected, cut sum
}

func newTable() table { return table{map[string][]int{}, map[string]sum{}, sum{}, sum{}} }

// put adds a mass to that of a key.
func (x table) put(key []int, mass sum) {
	name := fmt.Sprint(key)
	if x.masses[name] == nil {
		x.keys[name], x.masses[name] = slices.Clone(key), sum{}
	}
	for m, c := range mass {
		x.masses[name].add(m, c)
	}
}

// tableOf returns the sum of some measures.
func tableOf(l ...api.Measure) table {
	x := newTable()
	for _, m := range l {
		for _, r := range m.Rows {
			x.put(r.Key, sumOf(r.Mass))
		}
		for mono, c := range sumOf(m.Rejected) {
			x.rejected.add(mono, c)
		}
		for mono, c := range sumOf(m.Cut) {
			x.cut.add(mono, c)
		}
	}
	return x
}

// measure returns the measure in which all masses are in normal form.
func (x table) measure() api.Measure {
	m := api.Measure{Rejected: x.rejected.normal(), Cut: x.cut.normal()}
	for name, mass := range x.masses {
		if !mass.isZero() {
			m.Rows = append(m.Rows, api.Row{Key: x.keys[name], Mass: mass.normal()})
		}
	}
	slices.SortFunc(m.Rows, func(a, b api.Row) int {
		if less(a.Key, b.Key) {
			return -1
		}
		return 1
	})
	return m
}

// changed returns the table with other masses.
func (x table) changed(change func(sum) sum) table {
	y := newTable()
	for name, mass := range x.masses {
		y.put(x.keys[name], change(mass))
	}
	y.rejected, y.cut = change(x.rejected), change(x.cut)
	return y
}

// accepted returns the sum of the masses of all keys.
func (x table) accepted() sum {
	var l []api.Poly
	for _, mass := range x.masses {
		l = append(l, mass.normal())
	}
	return sumOf(l...)
}

// keyLength returns the length of the keys of m, or -1 without rows.
func keyLength(m api.Measure) int {
	if len(m.Rows) == 0 {
		return -1
	}
	return len(m.Rows[0].Key)
}

// differ reports whether m has rows whose keys do not have the length n, if n is not -1.
func differ(m api.Measure, n int) bool {
	return n >= 0 && keyLength(m) >= 0 && keyLength(m) != n
}

// beyond returns ErrLimit if an exponent of a measure is too large.
func beyond(m api.Measure) api.Errno {
	for _, r := range append(rows(row(m.Rejected), row(m.Cut)), m.Rows...) {
		if !isValid(r.Mass) {
			return api.ErrLimit
		}
	}
	return api.OK
}

// arguments are those of all functions.
type arguments struct {
	A, B    api.Measure
	Key     []int
	Mass    api.Poly
	Cells   []int
	Cell, N int
	X       []api.Rat
}

// outcome is what a function returns: a measure, a polynomial, or rational functions with their keys.
type outcome struct {
	Measure api.Measure
	Poly    api.Poly
	Posts   []api.Post
	IsSo    bool
	Err     api.Errno
}

// functions are the functions with their arguments from a list for all of them.
var functions = map[string]func(x arguments) outcome{
	"Validate": func(x arguments) outcome { return outcome{Err: measure.Validate(x.A)} },
	"Put": func(x arguments) (o outcome) {
		o.Measure, o.Err = measure.Put(x.A, x.Key, x.Mass)
		return o
	},
	"Add": func(x arguments) (o outcome) {
		o.Measure, o.Err = measure.Add(x.A, x.B)
		return o
	},
	"Scale": func(x arguments) (o outcome) {
		o.Measure, o.Err = measure.Scale(x.A, x.Mass)
		return o
	},
	"Accepted": func(x arguments) (o outcome) {
		o.Poly, o.Err = measure.Accepted(x.A)
		return o
	},
	"Total": func(x arguments) (o outcome) {
		o.Poly, o.Err = measure.Total(x.A)
		return o
	},
	"Mass": func(x arguments) (o outcome) {
		o.Poly, o.Err = measure.Mass(x.A, x.Key)
		return o
	},
	"Posterior": func(x arguments) (o outcome) {
		o.Posts, o.Err = measure.Posterior(x.A)
		return o
	},
	"Marginal": func(x arguments) (o outcome) {
		o.Measure, o.Err = measure.Marginal(x.A, x.Cells)
		return o
	},
	"Moment": func(x arguments) (o outcome) {
		f, e := measure.Moment(x.A, x.Cell, x.N)
		if len(f.Num)+len(f.Den) > 0 {
			o.Posts = []api.Post{{Prob: f}}
		}
		o.Err = e
		return o
	},
	"Eval": func(x arguments) (o outcome) {
		o.Measure, o.Err = measure.Eval(x.A, x.X)
		return o
	},
	"Equal": func(x arguments) outcome { return outcome{IsSo: measure.Equal(x.A, x.B)} },
}

func wrong(e api.Errno) outcome { return outcome{Err: e} }

// limited returns a measure as an outcome, or ErrLimit.
func limited(m api.Measure) outcome {
	if e := beyond(m); e != api.OK {
		return wrong(e)
	}
	return outcome{Measure: m}
}

// quotient returns num / den in normal form.
func quotient(num, den sum) api.Quot {
	f, e := ratfunc.Make(num.normal(), den.normal())
	if e != api.OK {
		panic("an error of ratfunc")
	}
	return f
}

// divided returns the posterior by its definition.
func divided(x arguments) outcome {
	t := tableOf(x.A)
	switch {
	case !t.cut.isZero():
		return wrong(api.ErrCut)
	case t.accepted().isZero():
		return wrong(api.ErrEvidence)
	}
	var l []api.Post
	for _, r := range x.A.Rows {
		l = append(l, api.Post{Key: r.Key, Prob: quotient(sumOf(r.Mass), t.accepted())})
	}
	return outcome{Posts: l}
}

// moment returns a moment by its definition, as a sum of products with the posterior probabilities.
func moment(x arguments) outcome {
	posterior := divided(x)
	if posterior.Err != api.OK {
		return posterior
	}
	if x.Cell < 0 || x.Cell >= keyLength(x.A) || x.N < 0 || x.N > api.MaxPower {
		return wrong(api.ErrRange)
	}
	total := quotient(sum{}, sumOf(constant(1, 1)))
	for _, post := range posterior.Posts {
		power := new(big.Rat).SetInt(new(big.Int).Exp(big.NewInt(int64(post.Key[x.Cell])), big.NewInt(int64(x.N)), nil))
		part, _ := ratfunc.Mul(post.Prob, quotient(sum{api.Mono{}: power}, sumOf(constant(1, 1))))
		total, _ = ratfunc.Add(total, part)
	}
	return outcome{Posts: []api.Post{{Prob: total}}}
}

// marginal returns a marginal by its definition.
func marginal(x arguments) outcome {
	t, y := tableOf(x.A), newTable()
	for _, r := range x.A.Rows {
		var key []int
		for _, cell := range x.Cells {
			if cell < 0 || cell >= len(r.Key) {
				return wrong(api.ErrRange)
			}
			key = append(key, r.Key[cell])
		}
		y.put(key, sumOf(r.Mass))
	}
	y.rejected, y.cut = t.rejected, t.cut
	return outcome{Measure: y.measure()}
}

// expected returns what a function must return.
func expected(name string, x arguments) outcome {
	binary := name == "Add" || name == "Equal"
	valid := isMeasure(x.A) && (!binary || isMeasure(x.B))
	switch {
	case name == "Equal":
		return outcome{IsSo: valid && same(tableOf(x.A).measure(), tableOf(x.B).measure())}
	case !valid, (name == "Put" || name == "Scale") && !isValid(x.Mass):
		return wrong(api.ErrForm)
	}
	t := tableOf(x.A)
	switch name {
	case "Put":
		if differ(x.A, len(x.Key)) {
			return wrong(api.ErrRange)
		}
		t.put(x.Key, sumOf(x.Mass))
		return outcome{Measure: t.measure()}
	case "Add":
		if differ(x.A, keyLength(x.B)) {
			return wrong(api.ErrRange)
		}
		return outcome{Measure: tableOf(x.A, x.B).measure()}
	case "Scale":
		return limited(t.changed(func(s sum) sum { return s.times(sumOf(x.Mass)) }).measure())
	case "Accepted":
		return outcome{Poly: t.accepted().normal()}
	case "Total":
		return outcome{Poly: sumOf(t.accepted().normal(), x.A.Rejected, x.A.Cut).normal()}
	case "Mass":
		return outcome{Poly: t.masses[fmt.Sprint(x.Key)].normal()}
	case "Posterior":
		return divided(x)
	case "Moment":
		return moment(x)
	case "Marginal":
		return marginal(x)
	case "Eval":
		if len(x.X) > api.MaxVars {
			return wrong(api.ErrRange)
		}
		return outcome{Measure: t.changed(func(s sum) sum { return sum{api.Mono{}: s.value(x.X)} }).measure()}
	}
	return outcome{}
}

// check compares all functions with the reference.
func check(t *testing.T, x arguments) map[string]outcome {
	t.Helper()
	got := map[string]outcome{}
	for name, call := range functions {
		got[name] = call(x)
		if want := expected(name, x); !same(got[name], want) {
			t.Fatalf("%s of\n%s, %s,\nkey %v, mass %s, cells %v, cell %d, n %d, x %v is\n%+v, not\n%+v",
				name, text(x.A), text(x.B), x.Key, textOf(x.Mass), x.Cells, x.Cell, x.N, x.X, got[name], want)
		}
	}
	return got
}

// P15.1 to P15.4 for random arguments
func TestFunctions(t *testing.T) {
	m := newMaker(151)
	met := map[string]int{}
	for range 4000 {
		x := m.arguments()
		if m.often(3) {
			m.damage(&x)
		}
		for name, o := range check(t, x) {
			met[fmt.Sprint(name, " ", o.Err)]++
			if name == "Equal" {
				met[fmt.Sprint(name, " ", o.IsSo)]++
			}
		}
	}
	for _, name := range []string{
		"Validate 0", "Validate 2", "Put 0", "Put 1", "Put 2", "Add 0", "Add 1", "Add 2", "Scale 0", "Scale 2", "Scale 9",
		"Accepted 0", "Accepted 2", "Total 0", "Total 2", "Mass 0", "Mass 2", "Posterior 0", "Posterior 2", "Posterior 10", "Posterior 11",
		"Marginal 0", "Marginal 1", "Marginal 2", "Moment 0", "Moment 1", "Moment 2", "Moment 10", "Moment 11", "Eval 0", "Eval 1", "Eval 2", "Equal true", "Equal false",
	} {
		if met[name] < 20 {
			t.Errorf("%s was met %d times", name, met[name])
		}
	}
}
