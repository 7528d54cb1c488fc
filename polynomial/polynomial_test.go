package polynomial_test

import (
	"math"
	"math/big"
	"math/rand/v2"
	"testing"

	"exactppl/api"
	"exactppl/polynomial"
	"exactppl/rational"
)

// wrongVariables are the numbers that no variable has.
var wrongVariables = []int{-1, api.MaxVars, math.MinInt, math.MaxInt}

// P3.1

func TestNorm(t *testing.T) {
	for _, p := range polys() {
		got, e := polynomial.Norm(p)
		check(t, got, e, toRef(p), "Norm", p)
		again, e := polynomial.Norm(got)
		check(t, again, e, toRef(p), "Norm", got)
	}
	for v := range api.MaxVars {
		got, e := polynomial.Norm(power(v, api.MaxExp))
		check(t, got, e, toRef(power(v, api.MaxExp)), "Norm", v)
	}
	for _, p := range invalid() {
		got, e := polynomial.Norm(p)
		checkError(t, e, api.ErrForm, got, "Norm", p)
	}
}

// The exponents of the variables with smaller numbers are compared first, and the sum of the exponents means nothing.
func TestOrderOfTerms(t *testing.T) {
	want := []api.Mono{{2}, {1, 2, 9}, {1, 2}, {1, 1, 1}, {1, 0, 0, 5}, {1}, {0, 9}, {0, 1, 0, 0, 0, 0, 0, 1}, {0, 1}, {7: 2}, {7: 1}, {}}
	r := rand.New(rand.NewPCG(3, 4))
	for range 50 {
		var p api.Poly
		for _, i := range r.Perm(len(want)) {
			p = append(p, api.Term{Mono: want[i], Coef: rational.Int(i - 20)})
		}
		got, e := polynomial.Norm(p)
		if e != api.OK || len(got) != len(want) {
			t.Fatal("Norm", p, got, e)
		}
		for i, m := range want {
			if got[i].Mono != m {
				t.Fatalf("the term %d of %v is not that of %v", i, got, m)
			}
		}
	}
}

func TestConst(t *testing.T) {
	r := rand.New(rand.NewPCG(5, 6))
	for _, c := range []api.Rat{{}, {Neg: true}, {Num: []uint32{5}}, {Num: []uint32{0}, Den: []uint32{3}}, rational.Int(-7), rational.Int(1)} {
		check(t, polynomial.Const(c), api.OK, reference{api.Mono{}: toBig(c)}, "Const", c)
	}
	for range 200 {
		c := randomRat(r)
		check(t, polynomial.Const(c), api.OK, reference{api.Mono{}: toBig(c)}, "Const", c)
	}
}

func TestVar(t *testing.T) {
	for v := range api.MaxVars {
		got, e := polynomial.Var(v)
		check(t, got, e, toRef(power(v, 1)), "Var", v)
	}
	for _, v := range wrongVariables {
		got, e := polynomial.Var(v)
		checkError(t, e, api.ErrRange, got, "Var", v)
	}
}

func TestSumsAndProducts(t *testing.T) {
	all := polys()
	for _, p := range all {
		for _, q := range all {
			got, e := polynomial.Add(p, q)
			check(t, got, e, toRef(p).plus(toRef(q)), "Add", p, q)
			got, e = polynomial.Sub(p, q)
			check(t, got, e, toRef(p).minus(toRef(q)), "Sub", p, q)
			got, e = polynomial.Mul(p, q)
			check(t, got, e, toRef(p).times(toRef(q)), "Mul", p, q)
		}
	}
}

func TestScale(t *testing.T) {
	r := rand.New(rand.NewPCG(7, 8))
	for _, p := range append(polys(), power(3, api.MaxExp)) {
		for _, c := range []api.Rat{{}, {Num: []uint32{5}}, rational.Int(1), rational.Int(-1), randomRat(r), randomRat(r)} {
			got, e := polynomial.Scale(p, c)
			check(t, got, e, toRef(p).scaled(toBig(c)), "Scale", p, c)
		}
	}
}

func TestPow(t *testing.T) {
	for _, p := range polys() {
		for n := range 6 {
			got, e := polynomial.Pow(p, n)
			check(t, got, e, toRef(p).power(n), "Pow", p, n)
		}
		for _, n := range []int{-1, api.MaxPower + 1, math.MinInt, math.MaxInt} {
			got, e := polynomial.Pow(p, n)
			checkError(t, e, api.ErrRange, got, "Pow", p, n)
		}
	}
	half := api.Rat{Neg: true, Num: []uint32{2}, Den: []uint32{4}}
	for _, p := range []api.Poly{nil, {term(1, 0, 0)}, {{Mono: api.Mono{16}, Coef: half}}, {term(1, 1, 0), {Coef: half}}} {
		for _, n := range []int{0, 1, api.MaxPower - 1, api.MaxPower} {
			got, e := polynomial.Pow(p, n)
			check(t, got, e, toRef(p).power(n), "Pow", p, n)
		}
	}
}

// The limit of the exponents holds for the normal form of a result, not for its parts.
func TestLimitOfProducts(t *testing.T) {
	for v := range api.MaxVars {
		got, e := polynomial.Mul(power(v, 1000), join(power(v, 24), power(0, 0)))
		check(t, got, e, toRef(join(power(v, 1024), power(v, 1000))), "Mul", v)
		got, e = polynomial.Mul(power(v, 1000), join(power(0, 0), power(v, 25)))
		checkError(t, e, api.ErrLimit, got, "Mul", v)
		got, e = polynomial.Pow(power(v, 16), 64)
		check(t, got, e, toRef(power(v, 1024)), "Pow", v)
		got, e = polynomial.Pow(join(power(0, 0), power(v, 17)), 64)
		checkError(t, e, api.ErrLimit, got, "Pow", v)
		got, e = polynomial.Pow(power(v, 1024), 1)
		check(t, got, e, toRef(power(v, 1024)), "Pow", v)
		got, e = polynomial.Pow(power(v, 1024), 0)
		check(t, got, e, toRef(power(v, 0)), "Pow", v)
	}
	zero := api.Poly{term(0, 1024, 0), term(1, 0, 1024), term(-1, 0, 1024)}
	got, e := polynomial.Mul(zero, join(power(0, 1024), power(1, 1024)))
	check(t, got, e, nil, "Mul", zero)
	got, e = polynomial.Pow(zero, 64)
	check(t, got, e, nil, "Pow", zero)
	high := join(zero, power(2, 3))
	got, e = polynomial.Mul(high, power(0, 5))
	check(t, got, e, toRef(power(2, 3)).times(toRef(power(0, 5))), "Mul", high)
	var wide api.Poly // its power has more than a thousand million terms
	for v := range api.MaxVars {
		wide = join(wide, power(v, 17))
	}
	got, e = polynomial.Pow(wide, 64)
	checkError(t, e, api.ErrLimit, got, "Pow", wide)
	got, e = polynomial.Pow(wide, 65)
	checkError(t, e, api.ErrRange, got, "Pow", wide)
}

// All functions with an error return ErrForm for arguments that are not valid, before all other errors.
func TestInvalidArguments(t *testing.T) {
	good, x := api.Poly{term(2, 1, 0), term(1, 0, 0)}, make([]api.Rat, 9)
	unary := map[string]func(p api.Poly) (api.Poly, api.Errno){
		"Norm":       polynomial.Norm,
		"Scale":      func(p api.Poly) (api.Poly, api.Errno) { return polynomial.Scale(p, api.Rat{}) },
		"Pow":        func(p api.Poly) (api.Poly, api.Errno) { return polynomial.Pow(p, 0) },
		"Pow 65":     func(p api.Poly) (api.Poly, api.Errno) { return polynomial.Pow(p, 65) },
		"Derivative": func(p api.Poly) (api.Poly, api.Errno) { return polynomial.Derivative(p, 8) },
	}
	binary := map[string]func(p, q api.Poly) (api.Poly, api.Errno){
		"Add": polynomial.Add, "Sub": polynomial.Sub, "Mul": polynomial.Mul, "Divide": polynomial.Divide,
		"Substitute":   func(p, q api.Poly) (api.Poly, api.Errno) { return polynomial.Substitute(p, 0, q) },
		"Substitute 7": func(p, q api.Poly) (api.Poly, api.Errno) { return polynomial.Substitute(p, 7, q) },
		"Substitute 8": func(p, q api.Poly) (api.Poly, api.Errno) { return polynomial.Substitute(p, 8, q) },
	}
	for _, bad := range invalid() {
		for name, f := range unary {
			got, e := f(bad)
			checkError(t, e, api.ErrForm, got, name, bad)
		}
		for name, f := range binary {
			for _, other := range []api.Poly{good, nil, bad, power(0, 1024)} {
				got, e := f(bad, other)
				checkError(t, e, api.ErrForm, got, name, bad, other)
				got, e = f(other, bad)
				checkError(t, e, api.ErrForm, got, name, other, bad)
			}
		}
		if d, e := polynomial.Degree(bad, 8); e != api.ErrForm || d != 0 {
			t.Error("Degree", bad, d, e)
		}
		if l, e := polynomial.Coefs(bad, 8); e != api.ErrForm || len(l) != 0 {
			t.Error("Coefs", bad, l, e)
		}
		if r, e := polynomial.Eval(bad, x); e != api.ErrForm || !sameRat(r, api.Rat{}) {
			t.Error("Eval", bad, r, e)
		}
		if s, e := polynomial.Format(bad, nil); e != api.ErrForm || s != "" {
			t.Error("Format", bad, s, e)
		}
		if polynomial.Equal(bad, bad) || polynomial.Equal(bad, good) || polynomial.Equal(good, bad) || polynomial.Equal(nil, bad) {
			t.Error("Equal", bad)
		}
	}
}

// P3.2

func TestDegree(t *testing.T) {
	for _, p := range append(polys(), power(5, api.MaxExp)) {
		normal := toRef(p).normal()
		for v := range api.MaxVars {
			want := -1
			for _, u := range normal {
				want = max(want, u.Mono[v])
			}
			if d, e := polynomial.Degree(p, v); e != api.OK || d != want {
				t.Fatalf("Degree(%v, %d) is %d, error %d, not %d", p, v, d, e, want)
			}
		}
		for _, v := range wrongVariables {
			if d, e := polynomial.Degree(p, v); e != api.ErrRange || d != 0 {
				t.Fatal("Degree", p, v, d, e)
			}
		}
	}
}

func TestCoefs(t *testing.T) {
	for _, p := range append(polys(), join(power(5, api.MaxExp), power(5, 2))) {
		for v := range api.MaxVars {
			got, e := polynomial.Coefs(p, v)
			d, _ := polynomial.Degree(p, v)
			if e != api.OK || len(got) != d+1 {
				t.Fatalf("Coefs(%v, %d) is %v, error %d", p, v, got, e)
			}
			whole := reference{}
			for i, c := range got {
				if n, _ := polynomial.Degree(c, v); n > 0 {
					t.Fatalf("Coefs(%v, %d) is %v", p, v, got)
				}
				check(t, c, api.OK, toRef(c), "Coefs", p, v)
				whole = whole.plus(toRef(c).times(toRef(power(v, i))))
			}
			check(t, toRef(p).normal(), api.OK, whole, "Coefs", p, v)
		}
		for _, v := range wrongVariables {
			if got, e := polynomial.Coefs(p, v); e != api.ErrRange || len(got) != 0 {
				t.Fatal("Coefs", p, v, got, e)
			}
		}
	}
}

func TestDerivative(t *testing.T) {
	for _, p := range append(polys(), join(power(5, api.MaxExp), power(5, 1))) {
		for v := range api.MaxVars {
			got, e := polynomial.Derivative(p, v)
			check(t, got, e, toRef(p).derivative(v), "Derivative", p, v)
		}
		for _, v := range wrongVariables {
			got, e := polynomial.Derivative(p, v)
			checkError(t, e, api.ErrRange, got, "Derivative", p, v)
		}
	}
}

// P3.3

// point returns n numbers, and the same ones with 0 for each variable without a number.
func point(r *rand.Rand, n int) ([]api.Rat, []*big.Rat) {
	x, all := make([]api.Rat, n), make([]*big.Rat, api.MaxVars)
	for v := range all {
		all[v] = new(big.Rat)
		if v < n {
			x[v] = randomRat(r)
			all[v] = toBig(x[v])
		}
	}
	return x, all
}

func TestEval(t *testing.T) {
	r := rand.New(rand.NewPCG(9, 10))
	for _, p := range polys() {
		for n := range api.MaxVars + 1 {
			x, all := point(r, n)
			got, e := polynomial.Eval(p, x)
			if want := fromBig(toRef(p).value(all)); e != api.OK || !sameRat(got, want) {
				t.Fatalf("Eval(%v, %v) is %v, error %d, not %v", p, x, got, e, want)
			}
		}
		for _, n := range []int{api.MaxVars + 1, 100} {
			if got, e := polynomial.Eval(p, make([]api.Rat, n)); e != api.ErrRange || !sameRat(got, api.Rat{}) {
				t.Fatal("Eval", p, n, got, e)
			}
		}
	}
}

// Exponents that are greater than those of rational.Pow, with gaps between them.
func TestEvalOfHighPowers(t *testing.T) {
	exps := []int{0, 1, 2, 63, 64, 65, 127, 128, 129, 1000, 1023, 1024}
	var p api.Poly
	for i, exp := range exps {
		p = append(p, term(i-3, exp, 1024-exp))
	}
	for _, c := range [][]int{{2, 3}, {-1, 1}, {0, 1}, {1, 0}, {0, 0}, {-2, 0}, {7, -5}} {
		x, all := []api.Rat{rational.Int(c[0]), rational.Norm(api.Rat{Neg: c[1] < 0, Num: []uint32{uint32(max(c[1], -c[1]))}, Den: []uint32{3}})}, make([]*big.Rat, api.MaxVars)
		for v := range all {
			all[v] = new(big.Rat)
		}
		all[0], all[1] = toBig(x[0]), toBig(x[1])
		got, e := polynomial.Eval(p, x)
		if want := fromBig(toRef(p).value(all)); e != api.OK || !sameRat(got, want) {
			t.Errorf("the value at %v is %v, error %d, not %v", c, got, e, want)
		}
	}
}

func TestSubstitute(t *testing.T) {
	all := polys()
	for _, p := range all {
		for _, q := range all[:30] {
			for _, v := range []int{0, 1, 5, 7} {
				got, e := polynomial.Substitute(p, v, q)
				check(t, got, e, toRef(p).insert(v, toRef(q)), "Substitute", p, v, q)
			}
		}
		for _, v := range wrongVariables {
			got, e := polynomial.Substitute(p, v, p)
			checkError(t, e, api.ErrRange, got, "Substitute", p, v)
		}
	}
}

func TestLimitOfSubstitutions(t *testing.T) {
	a, b := power(0, 1), power(1, 1)
	sumOf := join(a, b)
	for _, c := range []struct {
		p, q api.Poly
		e    api.Errno
	}{
		{power(0, 512), power(1, 2), api.OK},
		{power(0, 1024), b, api.OK},
		{power(0, 1024), a, api.OK},
		{power(0, 1024), api.Poly{term(2, 0, 0)}, api.OK},
		{power(0, 1024), nil, api.OK},
		{power(0, 64), api.Poly{term(1, 2, 0), term(-1, 0, 16)}, api.OK},
		{power(1, 1024), power(7, 1024), api.OK}, // without the variable
		{power(0, 513), power(0, 2), api.ErrLimit},
		{power(0, 1024), power(7, 1024), api.ErrLimit},
		{power(0, 2), join(power(0, 513), power(1, 1)), api.ErrLimit},
		{api.Poly{term(1, 1, 1024)}, b, api.ErrLimit},
		{api.Poly{term(1, 1, 1024)}, sumOf, api.ErrLimit},
		{api.Poly{term(1, 2, 1023), term(-1, 1, 1024)}, b, api.OK},                          // zero: the parts cancel
		{api.Poly{term(1, 2, 1023), term(1, 1, 1024)}, b, api.ErrLimit},                     // the parts add up
		{api.Poly{term(1, 2, 1023), term(-1, 1, 1024)}, join(b, power(2, 1)), api.OK},       // 1025 cancels, 1024 is left
		{api.Poly{term(1, 3, 1023), term(-1, 2, 1024)}, join(b, power(2, 1)), api.ErrLimit}, // 1026 cancels, 1025 is left
		{api.Poly{term(1, 2, 1023), term(-1, 1, 1024), term(1, 0, 3)}, b, api.OK},
		{api.Poly{term(1, 1, 1023), term(-1, 1, 1023), term(1, 0, 3)}, power(1, 2), api.OK}, // v does not occur
	} {
		got, e := polynomial.Substitute(c.p, 0, c.q)
		if c.e != api.OK {
			checkError(t, e, c.e, got, "Substitute", c.p, c.q)
			continue
		}
		check(t, got, e, toRef(c.p).insert(0, toRef(c.q)), "Substitute", c.p, c.q)
	}
	wide, e := polynomial.Pow(join(a, b, power(2, 1), power(3, 1), power(4, 1), power(5, 1), power(6, 1), power(7, 1)), 2)
	if e != api.OK {
		t.Fatal("Pow", e)
	}
	got, e := polynomial.Substitute(join(power(0, 1024), power(0, 3)), 0, wide) // its result has very many terms
	checkError(t, e, api.ErrLimit, got, "Substitute", wide)
	wide, _ = polynomial.Substitute(wide, 0, nil)
	equal := join(power(0, 1000), api.Poly{{Mono: api.Mono{999, 2, 2, 2, 2, 2, 2, 2}, Coef: rational.Int(-1)}}) // both parts reach 2000 in each variable
	got, e = polynomial.Substitute(equal, 0, wide)
	checkError(t, e, api.ErrLimit, got, "Substitute", wide)
}

// P3.4

func TestDivide(t *testing.T) {
	all := polys()
	for _, q := range all {
		for _, p := range all {
			if len(toRef(q).normal()) == 0 {
				got, e := polynomial.Divide(p, q)
				checkError(t, e, api.ErrDivide, got, "Divide", p, q)
				continue
			}
			product := toRef(p).times(toRef(q)).normal()
			got, e := polynomial.Divide(product, q)
			check(t, got, e, toRef(p), "Divide", product, q)
			got, e = polynomial.Divide(p, q)
			if e == api.OK {
				check(t, toRef(p).normal(), e, toRef(got).times(toRef(q)), "Divide", p, q)
			} else {
				checkError(t, e, api.ErrUnequal, got, "Divide", p, q)
			}
		}
	}
}

// The divisor does not divide a product with a number that is not zero added to it, unless the divisor is a constant.
func TestDivideUnequal(t *testing.T) {
	r := rand.New(rand.NewPCG(11, 12))
	for range 500 {
		p, q := random(r, 5, 3), join(random(r, 5, 3), power(2, 4))
		got, e := polynomial.Divide(join(toRef(p).times(toRef(q)).normal(), api.Poly{term(5, 0, 0)}), q)
		checkError(t, e, api.ErrUnequal, got, "Divide", p, q)
	}
	a, b := power(0, 1), power(1, 1)
	for _, c := range [][2]api.Poly{
		{power(0, 0), a}, {a, b}, {a, power(0, 2)}, {join(a, b), api.Poly{term(1, 1, 0), term(-1, 0, 1)}},
		{join(power(0, 2), power(0, 0)), join(a, b)}, {power(0, 1024), join(a, power(1, 1024))},
		{join(power(0, 1024), power(1, 1024)), join(a, power(1, 512))}, {join(power(0, 1024), power(1, 1024)), join(a, b)},
		{join(power(7, 3), power(7, 0)), join(power(7, 2), power(7, 0))},
	} {
		got, e := polynomial.Divide(c[0], c[1])
		checkError(t, e, api.ErrUnequal, got, "Divide", c)
	}
}

// Quotients that are longer than the dividend, of divisors that become zero or constant with numbers in the places of some variables.
func TestDivideLongQuotients(t *testing.T) {
	for number := range 12 {
		for v := 1; v < api.MaxVars; v++ {
			for _, factor := range []api.Poly{power(0, 0), power(0, 1), join(power(0, 2), power(7, 1), power(2, 3))} {
				first, last := power(v, 1), api.Poly{term(-number, 0, 0)}
				quotient, power5 := reference{}, toRef(first).power(5).minus(toRef(api.Poly{term(number, 0, 0)}).power(5))
				for i := range 5 {
					quotient = quotient.plus(toRef(first).power(4 - i).times(toRef(api.Poly{term(number, 0, 0)}).power(i)))
				}
				q := toRef(factor).times(toRef(join(first, last))).normal()
				got, e := polynomial.Divide(toRef(factor).times(power5).normal(), q)
				check(t, got, e, quotient, "Divide", v, number, factor)
				got, e = polynomial.Divide(toRef(factor).times(power5).plus(toRef(power(0, 0))).normal(), q)
				checkError(t, e, api.ErrUnequal, got, "Divide", v, number, factor)
			}
		}
	}
}

// Divisions that fail, but whose quotients look right for very many terms.
func TestDivideUnequalAfterLong(t *testing.T) {
	for _, exp := range []int{2, 9, 100, 1024} {
		var sumOf, powers api.Poly
		for v := range api.MaxVars {
			sumOf, powers = join(sumOf, power(v, 1)), join(powers, power(v, exp))
			if v > 0 && (v > 1 || exp%2 == 0) {
				got, e := polynomial.Divide(powers, sumOf)
				checkError(t, e, api.ErrUnequal, got, "Divide", v, exp)
			}
		}
	}
}

func TestDivideHighPowers(t *testing.T) {
	difference := api.Poly{term(1, 1, 0), term(-1, 0, 1)}
	got, e := polynomial.Divide(api.Poly{term(1, 1024, 0), term(-1, 0, 1024)}, difference)
	want := reference{}
	for i := range 1024 {
		want.add(api.Mono{1023 - i, i}, big.NewRat(1, 1))
	}
	check(t, got, e, want, "Divide")
	for _, q := range []api.Poly{
		{term(1, 1, 0), term(-1, 0, 1), {Mono: api.Mono{7: 1}, Coef: rational.Int(5)}},
		{term(1, 1, 1), term(-3, 1, 0)}, {term(1, 1, 1), term(-3, 1, 0), term(1, 0, 0)}, {term(1, 1, 2), term(-1, 0, 2)},
	} {
		for n := 1; n < 8; n++ {
			p := toRef(q).power(n - 1)
			got, e = polynomial.Divide(toRef(q).power(n).normal(), q)
			check(t, got, e, p, "Divide", q, n)
			several := p.times(toRef(join(power(1, 5), power(0, 3), power(0, 0)))).normal()
			got, e = polynomial.Divide(several, q)
			if n > 1 {
				check(t, several, e, toRef(got).times(toRef(q)), "Divide", q, n)
			} else {
				checkError(t, e, api.ErrUnequal, got, "Divide", q, n)
			}
		}
	}
	got, e = polynomial.Divide(api.Poly{term(6, 1024, 1024)}, api.Poly{term(4, 0, 1024)})
	check(t, got, e, reference{api.Mono{1024}: big.NewRat(3, 2)}, "Divide")
	got, e = polynomial.Divide(nil, power(3, 1024))
	check(t, got, e, nil, "Divide")
}

func TestEqual(t *testing.T) {
	all := polys()
	for _, p := range all {
		for _, q := range all {
			if got, want := polynomial.Equal(p, q), samePoly(toRef(p).normal(), toRef(q).normal()); got != want {
				t.Fatalf("Equal(%v, %v) is %v", p, q, got)
			}
		}
		if !polynomial.Equal(p, toRef(p).normal()) || polynomial.Equal(p, join(p, power(4, 1))) {
			t.Fatal("Equal", p)
		}
	}
}

// P3.5

func TestFormat(t *testing.T) {
	names := []string{"p", "q", "long", "d", "e", "f", "g", "h"}
	half := api.Rat{Neg: true, Num: []uint32{6}, Den: []uint32{4}}
	for _, c := range []struct {
		p    api.Poly
		want string
	}{
		{nil, "0"}, {api.Poly{term(0, 3, 0)}, "0"}, {api.Poly{term(2, 1, 0), term(-2, 1, 0)}, "0"},
		{api.Poly{term(1, 0, 0)}, "1"}, {api.Poly{term(-1, 0, 0)}, "-1"}, {api.Poly{{Coef: half}}, "-3/2"},
		{power(0, 1), "p"}, {api.Poly{term(-1, 1, 0)}, "-p"}, {power(1, 2), "q^2"}, {power(7, 1024), "h^1024"},
		{api.Poly{term(3, 2, 1)}, "3*p^2*q"}, {api.Poly{{Mono: api.Mono{0, 2}, Coef: half}}, "-3/2*q^2"},
		{api.Poly{term(1, 0, 0), {Mono: api.Mono{0, 2}, Coef: half}, term(-1, 1, 0)}, "-p - 3/2*q^2 + 1"},
		{api.Poly{term(-1, 0, 0), term(1, 1, 0)}, "p - 1"}, {api.Poly{term(1, 2, 0), term(-1, 0, 2)}, "p^2 - q^2"},
		{api.Poly{{Mono: api.Mono{1, 0, 3, 0, 0, 0, 0, 2}, Coef: rational.Int(10)}, term(-7, 0, 1)}, "10*p*long^3*h^2 - 7*q"},
		{api.Poly{{Coef: rational.Int(math.MaxInt)}}, "9223372036854775807"},
	} {
		if got, e := polynomial.Format(c.p, names); e != api.OK || got != c.want {
			t.Errorf("Format(%v) is %q, error %d, not %q", c.p, got, e, c.want)
		}
	}
}

// A name is required for every variable of the normal form, and for no other one.
func TestFormatWithoutNames(t *testing.T) {
	names := []string{"a", "b", "c", "d", "e", "f", "g", "h"}
	for v := range api.MaxVars {
		p := join(power(v, 1), power(7, 2), api.Poly{{Mono: api.Mono{7: 2}, Coef: rational.Int(-1)}}, api.Poly{{Mono: api.Mono{7: 1}}})
		if got, e := polynomial.Format(p, names[:v+1]); e != api.OK || got != names[v] {
			t.Error("Format", p, got, e)
		}
		if got, e := polynomial.Format(join(p, power(0, 0)), names[:v]); e != api.ErrRange || got != "" {
			t.Error("Format", p, got, e)
		}
	}
	if got, e := polynomial.Format(api.Poly{term(5, 0, 0), term(0, 0, 1)}, nil); e != api.OK || got != "5" {
		t.Error("Format", got, e)
	}
	if got, e := polynomial.Format(power(0, 1), append(names, "i")); e != api.OK || got != "a" {
		t.Error("Format", got, e)
	}
}
