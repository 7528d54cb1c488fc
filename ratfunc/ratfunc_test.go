package ratfunc_test

import (
	"math"
	"math/rand/v2"
	"slices"
	"testing"

	"exactppl/api"
	"exactppl/polynomial"
	"exactppl/ratfunc"
	"exactppl/rational"
)

// factors are irreducible polynomials with the first coefficient 1, of which no two are equal.
func factors() []api.Poly {
	return []api.Poly{
		{term(1, 1)},
		{term(1, 0, 1)},
		{last(1, 1)},
		{term(1, 1), term(1)},
		{term(1, 1), term(-1, 0, 1)},
		{term(1, 2), term(1, 0, 2), term(1)},
		{term(1, 1, 1), term(1)},
		{term(1, 1, 1), term(-1, 0, 0, 1)},
		{term(1, 0, 3), term(-2)},
		{term(1, 1), term(-7, 0, 1), last(1, 2)},
	}
}

// A powers is a function as a number and how often it has each factor.
type powers struct {
	c    api.Rat
	exps []int
}

func randomPowers(r *rand.Rand) powers {
	x := powers{randomRat(r), make([]int, len(factors()))}
	for range 4 {
		x.exps[r.IntN(len(x.exps))] += r.IntN(5) - 2
	}
	return x
}

// plus returns x times y to the power n, which is 1 or -1.
func (x powers) plus(y powers, n int) powers {
	z := powers{rational.Mul(x.c, y.c), slices.Clone(x.exps)}
	if n < 0 {
		z.c, _ = rational.Div(x.c, y.c)
	}
	for i, exp := range y.exps {
		z.exps[i] += n * exp
	}
	return z
}

// quot returns the normal form of x.
func (x powers) quot() api.Quot {
	f := whole(polynomial.Const(x.c))
	for i, p := range factors() {
		f.Num = product(f.Num, power(p, max(x.exps[i], 0)))
		f.Den = product(f.Den, power(p, max(-x.exps[i], 0)))
	}
	return f
}

// zeros returns representations of the polynomial zero.
func zeros() []api.Poly {
	return []api.Poly{nil, {}, {term(0, 3)}, {term(2, 1, 4), term(-2, 1, 4)}, {{Mono: api.Mono{1}, Coef: api.Rat{Neg: true, Num: []uint32{3}}}}}
}

// invalid returns polynomials that are not valid.
func invalid() []api.Poly {
	l := []api.Poly{{term(0, -1)}, {term(1, 0, api.MaxExp+1)}, {term(1, 1), term(0, 0, 0, -5)}, {term(1, api.MaxExp+1), term(-1, api.MaxExp+1)}}
	return append(l, api.Poly{last(2, api.MaxExp+1)}, api.Poly{last(1, 2), last(1, -1)}, api.Poly{term(1, math.MinInt)}, api.Poly{term(1, math.MaxInt)})
}

// A wrong is a Quot with its error.
type wrong struct {
	f api.Quot
	e api.Errno
}

// wrongs returns Quots that have errors.
func wrongs() []wrong {
	l := []wrong{{api.Quot{}, api.ErrDivide}}
	for _, bad := range invalid() {
		l = append(l, wrong{over(bad, number(1)), api.ErrForm}, wrong{over(number(1), bad), api.ErrForm}, wrong{over(bad, nil), api.ErrForm}, wrong{over(nil, bad), api.ErrForm}, wrong{over(bad, bad), api.ErrForm})
	}
	for _, zero := range zeros() {
		l = append(l, wrong{over(number(1), zero), api.ErrDivide}, wrong{over(zero, zero), api.ErrDivide}, wrong{over(poly(term(1, 1)), zero), api.ErrDivide})
	}
	return l
}

// P5.1

func TestNormalForm(t *testing.T) {
	r := rand.New(rand.NewPCG(1, 2))
	for range 300 {
		want := randomPowers(r).quot()
		p := product(factors()[r.IntN(10)], polynomial.Const(randomRat(r)))
		f := expand(r, want, p)
		got, e := ratfunc.Norm(f)
		check(t, got, e, want, "Norm", f)
		got, e = ratfunc.Make(f.Num, f.Den)
		check(t, got, e, want, "Make", f)
		got, e = ratfunc.FromPoly(f.Num)
		check(t, got, e, whole(must(polynomial.Norm(f.Num))), "FromPoly", f)
	}
}

func TestNormalFormEdges(t *testing.T) {
	half := polynomial.Const(api.Rat{Num: []uint32{2}, Den: []uint32{4}})
	top := poly(term(1, api.MaxExp, api.MaxExp))
	for _, c := range []struct{ num, den, n, d api.Poly }{
		{poly(term(2, 1)), poly(term(4, 1, 1)), half, poly(term(1, 0, 1))},
		{nil, poly(term(-7, 1)), nil, number(1)},
		{number(3), number(-6), negated(half), number(1)},
		{poly(term(1, 1)), poly(term(2), term(-1, 1)), poly(term(-1, 1)), poly(term(1, 1), term(-2))},
		{top, top, number(1), number(1)},
		{top, poly(term(1, 1), term(1)), top, poly(term(1, 1), term(1))},
		{poly(term(1, 1), term(1)), top, poly(term(1, 1), term(1)), top},
		{poly(last(1, api.MaxExp)), poly(last(2, api.MaxExp-1)), poly(api.Term{Mono: api.Mono{7: 1}, Coef: half[0].Coef}), number(1)},
	} {
		got, e := ratfunc.Make(c.num, c.den)
		check(t, got, e, over(c.n, c.d), "Make", over(c.num, c.den))
		got, e = ratfunc.Norm(over(c.num, c.den))
		check(t, got, e, over(c.n, c.d), "Norm", over(c.num, c.den))
	}
	for _, zero := range zeros() {
		for _, den := range []api.Poly{number(1), number(-3), poly(term(5, 2), term(1, 0, 1))} {
			got, e := ratfunc.Make(zero, den)
			check(t, got, e, whole(nil), "Make", over(zero, den))
		}
		got, e := ratfunc.FromPoly(zero)
		check(t, got, e, whole(nil), "FromPoly", whole(zero))
	}
}

func TestProducts(t *testing.T) {
	r := rand.New(rand.NewPCG(3, 4))
	for range 400 {
		x, y := randomPowers(r), randomPowers(r)
		f, g := expand(r, x.quot(), factors()[r.IntN(10)]), expand(r, y.quot(), factors()[r.IntN(10)])
		got, e := ratfunc.Mul(f, g)
		check(t, got, e, x.plus(y, 1).quot(), "Mul", f, g)
		got, e = ratfunc.Div(f, g)
		check(t, got, e, x.plus(y, -1).quot(), "Div", f, g)
		if !ratfunc.Equal(f, x.quot()) || ratfunc.Equal(f, g) != sameQuot(x.quot(), y.quot()) {
			t.Fatalf("Equal of %s and %s", text(f), text(g))
		}
	}
}

// randomQuot returns a function with small exponents. Its denominator often has a factor that others have too.
func randomQuot(r *rand.Rand) api.Quot {
	l := factors()
	return over(random(r, 3, 3, 0, 1, 2), product(randomDen(r, 2, 2, 0, 1, 1), power(l[r.IntN(3)], r.IntN(3)), power(l[3+r.IntN(3)], r.IntN(3))))
}

func TestSums(t *testing.T) {
	r := rand.New(rand.NewPCG(5, 6))
	for range 300 {
		f, g := randomQuot(r), randomQuot(r)
		got, e := ratfunc.Add(f, g)
		checkLines(t, got, e, func(v int) ratio { return ratioOf(f, v).plus(ratioOf(g, v)) }, "Add", f, g)
		got, e = ratfunc.Sub(f, g)
		checkLines(t, got, e, func(v int) ratio { return ratioOf(f, v).minus(ratioOf(g, v)) }, "Sub", f, g)
		// What was added is cancelled again.
		got, e = ratfunc.Add(got, g)
		norm, _ := ratfunc.Norm(f)
		check(t, got, e, norm, "Add after Sub", f, g)
	}
}

func TestEqual(t *testing.T) {
	p, q := poly(term(1, 1)), poly(term(1, 0, 1))
	for _, c := range []struct {
		f, g api.Quot
		want bool
	}{
		{over(p, q), over(p, q), true},
		{over(p, q), over(product(p, q, number(-2)), product(q, q, number(-2))), true},
		{over(p, q), over(p, sum(q, number(1))), false},
		{over(p, q), over(q, q), false},
		{over(p, q), over(negated(p), q), false},
		{over(p, q), over(q, p), false},
		{over(nil, p), whole(nil), true},
		{whole(poly(term(1, api.MaxExp))), over(number(1), poly(term(1, api.MaxExp))), false},
		{over(poly(term(1, api.MaxExp)), poly(term(1, 1))), whole(poly(term(1, api.MaxExp-1))), true},
	} {
		if ratfunc.Equal(c.f, c.g) != c.want || ratfunc.Equal(c.g, c.f) != c.want {
			t.Errorf("Equal of %s and %s is not %v", text(c.f), text(c.g), c.want)
		}
	}
}

func TestZero(t *testing.T) {
	r := rand.New(rand.NewPCG(7, 8))
	for _, num := range zeros() {
		zero := over(num, poly(term(3, 2), term(1)))
		for range 10 {
			f := randomPowers(r).quot()
			got, e := ratfunc.Add(zero, f)
			check(t, got, e, f, "Add", zero, f)
			got, e = ratfunc.Sub(f, zero)
			check(t, got, e, f, "Sub", f, zero)
			got, e = ratfunc.Sub(zero, f)
			check(t, got, e, over(negated(f.Num), f.Den), "Sub", zero, f)
			got, e = ratfunc.Sub(f, f)
			check(t, got, e, whole(nil), "Sub", f, f)
			for _, args := range [][2]api.Quot{{zero, f}, {f, zero}} {
				got, e = ratfunc.Mul(args[0], args[1])
				check(t, got, e, whole(nil), "Mul", args[0], args[1])
			}
			got, e = ratfunc.Div(zero, f)
			check(t, got, e, whole(nil), "Div", zero, f)
			got, e = ratfunc.Div(f, zero)
			checkError(t, got, e, api.ErrDivide, "Div", f, zero)
		}
		got, e := ratfunc.Div(zero, zero)
		checkError(t, got, e, api.ErrDivide, "Div", zero, zero)
		if !ratfunc.Equal(zero, whole(nil)) || ratfunc.Equal(zero, whole(number(1))) {
			t.Error("Equal of", text(zero))
		}
	}
}

// A twoArguments is a function on two functions.
type twoArguments func(f, g api.Quot) (api.Quot, api.Errno)

func operations() map[string]twoArguments {
	return map[string]twoArguments{
		"Add": ratfunc.Add, "Sub": ratfunc.Sub, "Mul": ratfunc.Mul, "Div": ratfunc.Div,
		"Substitute": func(f, g api.Quot) (api.Quot, api.Errno) { return ratfunc.Substitute(f, 0, g) },
		"Substitute without a variable": func(f, g api.Quot) (api.Quot, api.Errno) {
			got, e := ratfunc.Substitute(f, -1, g)
			if e == api.ErrRange {
				e = api.OK // only the errors of f and g are of interest
			}
			return got, e
		},
	}
}

// The error of a Quot comes before all other errors, that of the first one before that of the second one.
func TestWrongArguments(t *testing.T) {
	limit := poly(term(1, api.MaxExp), term(1))
	good := []api.Quot{whole(nil), whole(number(2)), over(number(1), limit), over(limit, poly(term(1, 0, 1)))}
	for _, w := range wrongs() {
		got, e := ratfunc.Norm(w.f)
		checkError(t, got, e, w.e, "Norm", w.f)
		got, e = ratfunc.Make(w.f.Num, w.f.Den)
		checkError(t, got, e, w.e, "Make", w.f)
		for name, call := range operations() {
			for _, f := range good {
				got, e = call(w.f, f)
				checkError(t, got, e, w.e, name, w.f, f)
				got, e = call(f, w.f)
				checkError(t, got, e, w.e, name, f, w.f)
			}
			for _, other := range wrongs() {
				got, e = call(w.f, other.f)
				checkError(t, got, e, w.e, name, w.f, other.f)
			}
		}
		for _, v := range []int{-1, 0, 3, api.MaxVars} {
			got, e = ratfunc.Derivative(w.f, v)
			checkError(t, got, e, w.e, "Derivative", w.f)
		}
		for n := range 11 {
			value, e := ratfunc.Eval(w.f, make([]api.Rat, n))
			if e != w.e || value.Neg || len(value.Num)+len(value.Den) > 0 {
				t.Errorf("Eval of %s is %v, error %d", text(w.f), value, e)
			}
		}
		if s, e := ratfunc.Format(w.f, nil); e != w.e || s != "" {
			t.Errorf("Format of %s is %q, error %d", text(w.f), s, e)
		}
		for _, f := range append(good, w.f) {
			if ratfunc.Equal(w.f, f) || ratfunc.Equal(f, w.f) {
				t.Errorf("Equal of %s and %s", text(w.f), text(f))
			}
		}
	}
	for _, bad := range invalid() {
		got, e := ratfunc.FromPoly(bad)
		checkError(t, got, e, api.ErrForm, "FromPoly", whole(bad))
	}
}

// P5.2

func TestDerivative(t *testing.T) {
	r := rand.New(rand.NewPCG(9, 10))
	for range 150 {
		f := randomQuot(r)
		if r.IntN(2) == 0 {
			f = expand(r, f, factors()[r.IntN(10)])
		}
		for _, v := range []int{0, 1, 2, 6, 7} {
			got, e := ratfunc.Derivative(f, v)
			num, _ := polynomial.Derivative(f.Num, v)
			den, _ := polynomial.Derivative(f.Den, v)
			checkLines(t, got, e, func(x int) ratio {
				a, b := ratioOf(f, x), ratioOf(over(num, den), x)
				return ratio{b.num.times(a.den).minus(a.num.times(b.den)), a.den.times(a.den)}
			}, "Derivative", f)
		}
	}
}

func TestDerivativeEdges(t *testing.T) {
	p, q := poly(term(1, 1)), poly(term(1, 0, 1))
	for _, c := range []struct {
		f    api.Quot
		v    int
		want api.Quot
	}{
		{whole(nil), 0, whole(nil)},
		{whole(number(5)), 7, whole(nil)},
		{over(number(1), poly(term(-1, 1), term(1))), 0, over(number(1), poly(term(1, 2), term(-2, 1), term(1)))},
		{over(number(1), poly(term(-1, 1), term(1))), 1, whole(nil)},
		{over(p, q), 1, over(negated(p), power(q, 2))},
		{over(product(p, q), q), 1, whole(nil)},
		{whole(poly(term(1, api.MaxExp))), 0, whole(poly(term(api.MaxExp, api.MaxExp-1)))},
		{over(number(1), poly(term(1, 600))), 0, over(number(-600), poly(term(1, 601)))},
		{over(number(1), poly(term(1, api.MaxExp-1))), 0, over(number(1-api.MaxExp), poly(term(1, api.MaxExp)))},
	} {
		got, e := ratfunc.Derivative(c.f, c.v)
		check(t, got, e, c.want, "Derivative", c.f)
	}
	for _, v := range []int{-1, api.MaxVars, math.MinInt, math.MaxInt} {
		for _, f := range []api.Quot{whole(nil), over(p, q), over(number(1), poly(term(1, api.MaxExp)))} {
			got, e := ratfunc.Derivative(f, v)
			checkError(t, got, e, api.ErrRange, "Derivative", f)
		}
	}
}

func TestEval(t *testing.T) {
	r := rand.New(rand.NewPCG(11, 12))
	for range 300 {
		want := randomPowers(r).quot()
		p := factors()[r.IntN(10)]
		f := expand(r, want, p)
		var x []api.Rat
		for range r.IntN(api.MaxVars + 1) {
			x = append(x, rational.Int(r.IntN(5)-2))
		}
		num, _ := polynomial.Eval(want.Num, x)
		den, _ := polynomial.Eval(want.Den, x)
		value, wantE := rational.Div(num, den)
		got, e := ratfunc.Eval(f, x)
		if e != wantE || !sameRat(got, value) {
			t.Fatalf("Eval of %s is %v, error %d, not %v, error %d", text(f), got, e, value, wantE)
		}
	}
}

func TestEvalEdges(t *testing.T) {
	p, q := poly(term(1, 1)), poly(term(1, 0, 1))
	half := api.Rat{Num: []uint32{3}, Den: []uint32{6, 0}}
	two := rational.Int(2)
	eight := make([]api.Rat, api.MaxVars)
	eight[7] = half
	for _, c := range []struct {
		f    api.Quot
		x    []api.Rat
		want string
		e    api.Errno
	}{
		{whole(nil), nil, "0", api.OK},
		{whole(number(-3)), eight, "-3", api.OK},
		{whole(poly(last(4, 2))), eight, "1", api.OK},
		{whole(poly(last(4, 2))), eight[:7], "0", api.OK},
		{over(number(1), poly(last(1, 1))), eight, "2", api.OK},
		{over(number(1), poly(last(1, 1))), eight[:7], "", api.ErrDivide},
		{over(number(1), poly(last(1, 1))), append(eight, half), "", api.ErrRange},
		{whole(nil), append(eight, half), "", api.ErrRange},
		{over(product(p, q), p), []api.Rat{{}, two}, "2", api.OK},
		{over(p, product(p, q)), []api.Rat{{}, half}, "2", api.OK},
		{over(p, product(p, q)), []api.Rat{two}, "", api.ErrDivide},
		{over(p, sum(p, number(-2))), []api.Rat{two}, "", api.ErrDivide},
		{over(sum(p, number(-2)), sum(p, number(-2), q)), []api.Rat{two}, "", api.ErrDivide}, // 0/0, which is not cancelled
		{over(sum(p, number(-2)), sum(p, number(-2), q)), []api.Rat{two, half}, "0", api.OK},
		{over(nil, sum(p, number(-2))), []api.Rat{two}, "0", api.OK},
	} {
		got, e := ratfunc.Eval(c.f, c.x)
		if e != c.e || e == api.OK && rational.Format(got) != c.want || e != api.OK && len(got.Num)+len(got.Den) > 0 {
			t.Errorf("Eval of %s at %v is %v, error %d", text(c.f), c.x, got, e)
		}
	}
}

// P5.4

func TestFormat(t *testing.T) {
	p, q := poly(term(1, 1)), poly(term(1, 0, 1))
	names := []string{"p", "q"}
	for _, c := range []struct {
		f     api.Quot
		names []string
		want  string
		e     api.Errno
	}{
		{whole(nil), nil, "0", api.OK},
		{over(nil, p), nil, "0", api.OK},
		{over(number(3), number(-6)), nil, "-1/2", api.OK},
		{over(product(p, q), q), names[:1], "p", api.OK},
		{over(sum(p, q), product(number(2), p, q)), names, "(1/2*p + 1/2*q)/(p*q)", api.OK},
		{over(p, sum(negated(p), number(2))), []string{"", "x"}, "(-)/( - 2)", api.OK},
		{over(p, sum(negated(p), number(2))), names, "(-p)/(p - 2)", api.OK},
		{over(number(1), p), names, "(1)/(p)", api.OK},
		{over(number(-1), product(p, q, number(3))), append(names, "r"), "(-1/3)/(p*q)", api.OK},
		{over(p, q), names[:1], "", api.ErrRange},
		{over(q, p), names[:1], "", api.ErrRange},
		{over(q, number(4)), names[:1], "", api.ErrRange},
		{whole(p), nil, "", api.ErrRange},
		{over(p, poly(last(1, 1))), make([]string, 7), "", api.ErrRange},
		{over(power(p, 2), sum(q, number(1))), []string{"long name", "q"}, "(long name^2)/(q + 1)", api.OK},
	} {
		if got, e := ratfunc.Format(c.f, c.names); e != c.e || got != c.want {
			t.Errorf("Format of %s is %q, error %d, not %q", text(c.f), got, e, c.want)
		}
	}
	r := rand.New(rand.NewPCG(13, 14))
	names = []string{"a", "b", "c", "d", "e", "f", "g", "h"}
	for range 100 {
		want := randomPowers(r).quot()
		num, _ := polynomial.Format(want.Num, names)
		den, _ := polynomial.Format(want.Den, names)
		s := "(" + num + ")/(" + den + ")"
		if samePoly(want.Den, number(1)) {
			s = num
		}
		f := expand(r, want, factors()[r.IntN(10)])
		if got, e := ratfunc.Format(f, names); e != api.OK || got != s {
			t.Fatalf("Format of %s is %q, error %d, not %q", text(f), got, e, s)
		}
	}
}
