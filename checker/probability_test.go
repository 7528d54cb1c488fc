package checker_test

import (
	"math"
	"slices"
	"strconv"
	"strings"
	"testing"

	"exactppl/api"
	"exactppl/checker"
	"exactppl/polynomial"
	"exactppl/rational"
)

// P11.1: probabilities

func number(n int) api.Expr       { return api.Expr{Op: api.ExInt, Int: n} }
func fraction(r api.Rat) api.Expr { return api.Expr{Op: api.ExRat, Rat: r} }
func variable(s string) api.Expr  { return api.Expr{Op: api.ExName, Name: s} }

func node(op int, l ...api.Expr) api.Expr { return api.Expr{Op: op, Args: l} }

// power returns the product of n expressions.
func power(e api.Expr, n int) api.Expr {
	product := e
	for range n - 1 {
		product = node(api.ExMul, product, e)
	}
	return product
}

// square returns e to the power 2^n, a product of two equal factors at each level.
func square(e api.Expr, n int) api.Expr {
	for range n {
		e = node(api.ExMul, e, e)
	}
	return e
}

// checkProbability reports a polynomial that is not want, as polynomial.Format writes it.
func checkProbability(t *testing.T, params []string, e api.Expr, want string) {
	t.Helper()
	p, code := checker.Probability(params, e)
	if text, _ := polynomial.Format(p, []string{"p", "q", "r"}); code != api.OK || text != want || strings.HasPrefix(textOfPoly(p), "a coefficient") || strings.HasPrefix(textOfPoly(p), "monomials") {
		t.Errorf("Probability(%v, %.300s) is %.300s with the error %d, not %s", params, show(e), text, code, want)
	}
}

// checkProbabilityError reports an error that is not want, and a polynomial beside it.
func checkProbabilityError(t *testing.T, params []string, e api.Expr, want api.Errno) {
	t.Helper()
	if p, code := checker.Probability(params, e); code != want || len(p) > 0 {
		t.Errorf("Probability(%v, %.300s) is %.300s with the error %d, not %d", params, show(e), show(p), code, want)
	}
}

var pqr = []string{"p", "q", "r"}

func TestProbabilities(t *testing.T) {
	for s, want := range map[string]string{
		"0": "0", "1": "1", "1/2": "1/2", "1/1": "1", "0/7": "0", "p": "p", "q": "q", "r": "r", "-p": "-p", "--p": "p", "-(-1)": "1", "-0": "0",
		"p + q": "p + q", "q + p": "p + q", "p - q": "p - q", "q - p": "-p + q", "p * q": "p*q", "r * q * p": "p*q*r", "1 - p": "-p + 1", "p + 7": "p + 7", "p - 7/3": "p - 7/3", "1000000 * p": "1000000*p", "p * 1/3 * 3": "p",
		"2 - 1": "1", "3 * 1/4": "3/4", "7 - 13/2": "1/2", "p - p": "0", "p - p + 1/3": "1/3", "p * 0": "0", "0 * p * 5": "0", "(p + q) * (p - q)": "p^2 - q^2", "(p + q) * (p - q) + q * q": "p^2", "(1 - p) * (1 - q) * (1 - r)": "-p*q*r + p*q + p*r - p + q*r - q - r + 1",
		"1/2 * p - p * 2/4 + 1": "1", "(p - 1) * (p + 1) - p * p + 1": "0", "(p + 1) * 5 - 5 * p - 4": "1", "(q - q) * 2 + r": "r", "q - (q - r) - r": "0", "p * p - p * p * q - p * p * (1 - q)": "0", "p + q - p": "q", "(p + q) * (p + q) - p * p - 2 * p * q": "q^2",
	} {
		checkProbability(t, pqr, exprOf(t, s), want)
	}
}

func TestRangeOfProbabilities(t *testing.T) {
	for _, s := range strings.Split("2|-1|3/2|-1/2|1000000|1 + 1/1000000|0 - 1/1000000|p - p - 1|p - p + 2|(p + q) - p - q - 1/2|3 * 1/2|-(1/3)|0 * p + 5/4|(1 - p) - (2 - p)", "|") {
		checkProbabilityError(t, pqr, exprOf(t, s), api.ErrRange)
	}
	for _, n := range []int{math.MaxInt, math.MinInt, -1, 2, -1 << 32, 1 << 32} {
		checkProbabilityError(t, pqr, number(n), api.ErrRange)
		checkProbability(t, pqr, node(api.ExSub, node(api.ExAdd, number(n), number(1)), number(n)), "1")
		checkProbability(t, pqr, node(api.ExMul, number(n), variable("q")), strings.Replace(strconv.Itoa(n)+"*q", "-1*", "-", 1))
	}
	big := ratio(true, math.MaxInt, 3)
	checkProbabilityError(t, pqr, fraction(big), api.ErrRange)
	checkProbability(t, pqr, node(api.ExSub, fraction(big), fraction(big)), "0")
}

// Fractions in every form, of which the number counts that they denote.
func TestFractionsOfProbabilities(t *testing.T) {
	for _, v := range []struct {
		r    api.Rat
		want string
	}{
		{api.Rat{}, "0"}, {api.Rat{Neg: true}, "0"}, {api.Rat{Num: []uint32{7}}, "0"}, {api.Rat{Neg: true, Num: []uint32{7}, Den: []uint32{0, 0}}, "0"}, {api.Rat{Neg: true, Num: []uint32{0}, Den: []uint32{3}}, "0"},
		{api.Rat{Num: []uint32{2, 0}, Den: []uint32{6, 0, 0}}, "1/3"}, {api.Rat{Num: []uint32{0, 5}, Den: []uint32{0, 10}}, "1/2"}, {api.Rat{Num: []uint32{9}, Den: []uint32{9}}, "1"},
	} {
		checkProbability(t, nil, fraction(v.r), v.want)
		checkProbability(t, pqr, node(api.ExSub, node(api.ExAdd, variable("p"), fraction(v.r)), variable("p")), v.want)
	}
	checkProbabilityError(t, nil, fraction(api.Rat{Neg: true, Num: []uint32{2}, Den: []uint32{4}}), api.ErrRange)
	checkProbabilityError(t, nil, fraction(api.Rat{Num: []uint32{4}, Den: []uint32{2}}), api.ErrRange)
}

func TestNamesOfProbabilities(t *testing.T) {
	checkProbability(t, []string{"q", "p"}, exprOf(t, "p * p + q"), "p + q^2")
	checkProbability(t, []string{"p", "p"}, exprOf(t, "p"), "p")
	checkProbability(t, []string{"a", "b", "a"}, exprOf(t, "a * b"), "p*q")
	checkProbability(t, []string{"a", "b", "b"}, exprOf(t, "a - b"), "p - q")
	checkProbability(t, []string{""}, variable(""), "p")
	checkProbability(t, []string{"if", "\x00 é"}, node(api.ExAdd, variable("if"), variable("\x00 é")), "p + q")
	for _, params := range [][]string{nil, {}, {"q"}, {"P"}, {"pp"}, {"p "}, {""}, {"q", "r", "s"}} {
		checkProbabilityError(t, params, variable("p"), api.ErrName)
		checkProbability(t, params, number(1), "1")
	}
	checkProbabilityError(t, pqr, variable(""), api.ErrName)
}

// Every operator with every number of arguments.
func TestOperatorsOfProbabilities(t *testing.T) {
	counts := map[int]int{api.ExInt: 0, api.ExRat: 0, api.ExName: 0, api.ExNeg: 1, api.ExAdd: 2, api.ExSub: 2, api.ExMul: 2}
	for op := -1; op <= api.ExAt+2; op++ {
		want, known := counts[op]
		for n := range 5 {
			e := api.Expr{Op: op, Name: "p", Args: slices.Repeat([]api.Expr{variable("q")}, n)}
			if known && n == want {
				if _, code := checker.Probability(pqr, e); code != api.OK {
					t.Errorf("the operator %d with %d arguments is the error %d", op, n, code)
				}
				continue
			}
			checkProbabilityError(t, pqr, e, api.ErrType)
			e.Name = "z" // looked at after the number of arguments
			checkProbabilityError(t, pqr, e, api.ErrType)
			for i := range n { // arguments are examined before the operator, in order
				f := e
				f.Args = slices.Clone(e.Args)
				f.Args[i] = variable("z")
				checkProbabilityError(t, pqr, f, api.ErrName)
				for j := range i {
					f.Args[j] = node(api.ExNot)
					checkProbabilityError(t, pqr, f, api.ErrType)
					f.Args[j] = number(5) // a constant is not examined inside
					checkProbabilityError(t, pqr, f, api.ErrName)
				}
			}
		}
	}
	for _, op := range []int{math.MaxInt, math.MinInt} {
		checkProbabilityError(t, pqr, node(op), api.ErrType)
		checkProbabilityError(t, pqr, node(op, variable("p"), variable("q")), api.ErrType)
	}
}

func TestOrderOfProbabilities(t *testing.T) {
	four := []string{"p", "q", "r", "s"}
	for _, e := range []api.Expr{{}, number(5), number(1), variable("z"), variable("p"), node(api.ExNot, variable("z")), power(variable("p"), 17)} {
		checkProbabilityError(t, four, e, api.ErrLimit)
		checkProbabilityError(t, []string{"p", "p", "p", "p"}, e, api.ErrLimit)
	}
	high := power(variable("p"), 17)
	checkProbabilityError(t, pqr, node(api.ExAdd, high, variable("z")), api.ErrName)
	checkProbabilityError(t, pqr, node(api.ExAdd, high, node(api.ExNot, number(1))), api.ErrType)
	checkProbabilityError(t, pqr, node(api.ExNot, high), api.ErrType)
	checkProbabilityError(t, pqr, node(api.ExAdd, high, number(5)), api.ErrLimit)
	checkProbabilityError(t, pqr, node(api.ExAdd, node(api.ExSub, high, high), number(5)), api.ErrRange)
}

func TestLimitOfProbabilities(t *testing.T) {
	p, q, r := variable("p"), variable("q"), variable("r")
	checkProbability(t, pqr, power(p, 16), "p^16")
	checkProbability(t, pqr, node(api.ExMul, node(api.ExMul, power(r, 16), power(q, 16)), power(p, 16)), "p^16*q^16*r^16")
	checkProbability(t, pqr, node(api.ExSub, power(r, 16), power(q, 16)), "-q^16 + r^16")
	for _, v := range []api.Expr{p, q, r} {
		high := power(v, 17)
		for _, e := range []api.Expr{high, node(api.ExNeg, high), node(api.ExAdd, high, p), node(api.ExSub, q, high), node(api.ExMul, high, q), node(api.ExMul, node(api.ExSub, p, r), high), node(api.ExAdd, high, high), node(api.ExMul, power(v, 9), power(v, 8)), power(v, 1000), square(v, 15)} {
			checkProbabilityError(t, pqr, e, api.ErrLimit)
		}
		checkProbability(t, pqr, node(api.ExSub, high, high), "0")
		checkProbability(t, pqr, node(api.ExMul, high, number(0)), "0")
		checkProbability(t, pqr, node(api.ExMul, node(api.ExSub, q, q), high), "0")
		checkProbability(t, pqr, node(api.ExSub, node(api.ExAdd, high, p), high), "p")
		checkProbability(t, pqr, node(api.ExSub, node(api.ExAdd, power(p, 16), high), node(api.ExMul, power(v, 8), power(v, 9))), "p^16")
		checkProbabilityError(t, pqr, node(api.ExSub, node(api.ExAdd, number(2), high), high), api.ErrRange)
		checkProbabilityError(t, pqr, node(api.ExSub, node(api.ExMul, number(2), high), high), api.ErrLimit)
	}
	// In a sum one parameter cancels, and another does not.
	high := node(api.ExMul, power(p, 20), power(q, 18))
	checkProbabilityError(t, pqr, node(api.ExSub, node(api.ExAdd, high, power(q, 17)), high), api.ErrLimit)
	checkProbability(t, pqr, node(api.ExSub, node(api.ExAdd, high, power(q, 16)), high), "q^16")
}

// Parts are beyond the limit of a polynomial, and cancel.
func TestPartsBeyondTheLimit(t *testing.T) {
	p, q := variable("p"), variable("q")
	for _, n := range []int{api.MaxExp, api.MaxExp + 1, 2000} {
		high := power(p, n)
		checkProbabilityError(t, pqr, high, api.ErrLimit)
		checkProbability(t, pqr, node(api.ExSub, high, high), "0")
		checkProbability(t, pqr, node(api.ExSub, node(api.ExAdd, high, q), high), "q")
		checkProbability(t, pqr, node(api.ExMul, high, node(api.ExSub, q, q)), "0")
		checkProbability(t, pqr, node(api.ExAdd, node(api.ExMul, number(0), high), q), "q")
	}
	high := square(p, 14)
	checkProbability(t, pqr, node(api.ExSub, high, high), "0")
	s := "weight " + strings.Repeat("p*", 2000) + "p-p" + strings.Repeat("*p", 2000) + "; "
	checkTexts(t, "param p; var x: bool; ", verdicts{{s, api.OK}, {strings.Replace(s, "-", "+", 1), api.ErrLimit}}, "return x;")
}

// Products that have too many terms to be multiplied out.
func TestLongProducts(t *testing.T) {
	p, q, r := variable("p"), variable("q"), variable("r")
	factor := node(api.ExAdd, node(api.ExAdd, number(1), p), node(api.ExSub, q, r))
	for _, high := range []api.Expr{power(factor, 700), square(factor, 12), node(api.ExMul, power(node(api.ExSub, p, q), 400), power(node(api.ExAdd, q, r), 400))} {
		checkProbabilityError(t, pqr, high, api.ErrLimit)
		checkProbabilityError(t, pqr, node(api.ExAdd, high, number(1)), api.ErrLimit)
		checkProbabilityError(t, pqr, node(api.ExSub, power(p, 5000), high), api.ErrLimit)
		checkProbability(t, pqr, node(api.ExMul, high, number(0)), "0")
		checkProbability(t, pqr, node(api.ExAdd, node(api.ExMul, node(api.ExSub, r, r), high), r), "r")
	}
	s := "weight " + strings.Repeat("(1+p+q+r)*", 800) + "0; "
	checkTexts(t, "param p; param q; param r; var x: bool; ", verdicts{{s, api.OK}, {strings.Replace(s, "*0", "", 1), api.ErrLimit}}, "return x;")
}

// What is deep without brackets.
func TestDeepProbabilities(t *testing.T) {
	const n = 1 << 15
	p := variable("p")
	sum, negated, half := p, p, fraction(ratio(false, 1, 2))
	product := half
	for range n {
		sum = node(api.ExAdd, sum, p)
		negated = node(api.ExNeg, negated)
		product = node(api.ExMul, product, number(1))
	}
	checkProbability(t, pqr, sum, "32769*p")
	checkProbability(t, pqr, negated, "p")
	checkProbability(t, pqr, product, "1/2")
	checkProbability(t, pqr, node(api.ExSub, sum, node(api.ExMul, number(n), p)), "p")
}

// ratio returns a fraction of small numbers.
func ratio(neg bool, num, den int) api.Rat {
	r, _ := rational.New(num, den)
	r.Neg = neg
	return r
}
