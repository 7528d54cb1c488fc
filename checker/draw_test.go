package checker_test

import (
	"strings"
	"testing"

	"exactppl/api"
)

// P11.5: draws

// kinds are variables of all types that a program can have, with real or natural numbers.
const kinds = "param p; param r; query k { var v: bool; return v; } query l { var v: int[0, 15]; return v; } var b: bool; var i: int[0, 9]; var t: (bool, bool); var m: list[1] bool; "

// checkDraws checks draws of variables of all types, of which those of the named ones are right.
func checkDraws(t *testing.T, right string, draws ...string) {
	t.Helper()
	for _, d := range draws {
		for _, name := range strings.Fields("b i t m n x") {
			want := api.ErrType
			if strings.Contains(right, name) {
				want = api.OK
			}
			for _, declaration := range []string{"var n: nat; ", "var x: real; "} {
				if name != "n" && name != "x" || strings.Contains(declaration, name+":") {
					checkTexts(t, kinds+declaration+name+" ~ ", verdicts{{d, want}}, "; return b;")
				}
			}
		}
	}
}

// checkWrong checks draws that have an error for variables of all types.
func checkWrong(t *testing.T, want api.Errno, draws ...string) {
	t.Helper()
	for _, d := range draws {
		for _, s := range []string{"b ~ #", "i ~ #", "t ~ #", "m ~ #", "var n: nat; n ~ #", "var x: real; x ~ #"} {
			checkTexts(t, kinds, verdicts{{strings.Replace(s, "#", d, 1), want}}, "; return b;")
		}
		checkTexts(t, kinds, verdicts{{"z ~ " + d, api.ErrName}, {"p ~ " + d, api.ErrName}, {"k ~ " + d, api.ErrName}}, "; return b;")
	}
}

func TestFlip(t *testing.T) {
	checkDraws(t, "b", "flip(1/2)", "flip(0)", "flip(1)", "flip(p)", "flip(1 - p * r)", "flip(p + 5)", "flip(p - p)")
	checkWrong(t, api.ErrRange, "flip(2)", "flip(-1)", "flip(3/2)", "flip(p - p - 1/2)")
	checkWrong(t, api.ErrName, "flip(q)", "flip(b)", "flip(k)", "flip(z < 1)")
	checkWrong(t, api.ErrType, "flip(true)", "flip(p < 1)", "flip([])", "flip(p == p)")
	checkWrong(t, api.ErrLimit, "flip(p"+strings.Repeat(" * p", 16)+")")
}

func TestUniform(t *testing.T) {
	checkDraws(t, "in", "uniform(0, 0)", "uniform(0, 15)", "uniform(-15, 0)", "uniform(-1000, -985)", "uniform(985, 1000)", "uniform(1000, 1000)", "uniform(-1000, -1000)", "uniform(20, 30)")
	checkWrong(t, api.ErrRange, "uniform(0, 16)", "uniform(1, 0)", "uniform(-1001, -1000)", "uniform(-1001, -1001)", "uniform(1000, 1001)", "uniform(1001, 1001)", "uniform(-1000, 1000)", "uniform(-1000000, 1000000)", "uniform(1000000, -1000000)")
}

func TestTable(t *testing.T) {
	repeated := func(s string, n int) string { return strings.Repeat(s+", ", n-1) + s }
	checkDraws(t, "in", "table(0; 1)", "table(5; p, 1 - p)", "table(0; 1/2, 1/3, 1/6)", "table(0; 0, 1, 0)", "table(-1000; 1)", "table(-1000; 1/2, 1/2)", "table(1000; 1)", "table(999; 1/2, 1/2)", "table(0; p * r, p - p * r, 1 - p)", "table(0; "+repeated("1/16", 16)+")", "table(985; "+repeated("1/16", 16)+")", "table(0; p, r, p, 1 - p - r - p)")
	checkWrong(t, api.ErrRange, "table(0; 1/2)", "table(0; 1/2, 1/3)", "table(0; 1/2, 2/3)", "table(0; p)", "table(0; p, p)", "table(0; p, 1/2)", "table(0; 0)", "table(0; 2)", "table(0; 2, 0 - 1)", "table(0; p, 2, q)", "table(-1001; 1)", "table(-1001; 1/2, 1/2)", "table(1001; 1)", "table(1000; 1/2, 1/2)", "table(986; "+repeated("1/16", 16)+")", "table(0; "+repeated("1/17", 17)+")", "table(1000000; true)", "table(0; "+repeated("z", 17)+")")
	checkWrong(t, api.ErrName, "table(0; z)", "table(0; p, z, 2)", "table(0; 1/2, 1/3, b)", "table(1000; z)")
	checkWrong(t, api.ErrType, "table(0; 1/2, true)", "table(0; true, z)", "table(1000; [])")
	checkWrong(t, api.ErrLimit, "table(0; p"+strings.Repeat(" * p", 16)+")", "table(0; p"+strings.Repeat(" * p", 16)+", z)")
}

func TestBinomial(t *testing.T) {
	power := func(n int) string { return "p" + strings.Repeat(" * p", n-1) }
	checkDraws(t, "in", "binomial(0, 1/2)", "binomial(15, 1/2)", "binomial(15, p)", "binomial(15, 1 - p - r)", "binomial(8, p * p)", "binomial(8, r * r * p)", "binomial(5, "+power(3)+")", "binomial(1, "+power(16)+")", "binomial(0, "+power(16)+")", "binomial(2, r - r * "+power(8)+")")
	checkWrong(t, api.ErrRange, "binomial(16, 1/2)", "binomial(16, z)", "binomial(1000000, true)", "binomial(15, 2)", "binomial(0, 2)", "binomial(0, -1/2)")
	checkWrong(t, api.ErrName, "binomial(15, z)", "binomial(0, i)")
	checkWrong(t, api.ErrType, "binomial(15, true)")
	checkWrong(t, api.ErrLimit, "binomial(9, p * p)", "binomial(9, r * r * p)", "binomial(6, "+power(3)+")", "binomial(2, "+power(9)+")", "binomial(2, 1 - r + r * "+power(9)+")", "binomial(0, "+power(17)+")")
}

func TestGeometric(t *testing.T) {
	checkDraws(t, "n", "geometric(0)", "geometric(1/2)", "geometric(99/100)", "geometric("+strings.Repeat("9", 59)+"/1"+strings.Repeat("0", 59)+")")
	checkWrong(t, api.ErrRange, "geometric(1)", "geometric(2)", "geometric(-1/2)", "geometric(-1)", "geometric(3/2)", "geometric(-1/"+strings.Repeat("9", 60)+")")
}

func TestInterval(t *testing.T) {
	checkDraws(t, "x", "interval(0, 1)", "interval(-1, 1)", "interval(-3/2, -1)", "interval(1/3, 1/2)", "interval(1000000000, 1000000001)")
	checkWrong(t, api.ErrRange, "interval(0, 0)", "interval(1, 0)", "interval(1/2, 1/2)", "interval(1/2, 1/3)", "interval(-1, -3/2)", "interval(1, -1)")
}

func TestBeta(t *testing.T) {
	checkDraws(t, "x", "beta(1, 1)", "beta(1, 6)", "beta(6, 1)", "beta(6, 6)", "beta(2, 5)")
	checkWrong(t, api.ErrRange, "beta(0, 1)", "beta(1, 0)", "beta(7, 1)", "beta(1, 7)", "beta(0, 7)", "beta(1000000, 1000000)")
}

func TestNested(t *testing.T) {
	checkDraws(t, "b", "posterior k")
	checkDraws(t, "in", "posterior l")
	checkWrong(t, api.ErrName, "posterior z", "posterior b", "posterior p")
	// In a function queries are not examined yet; in a query only earlier ones exist.
	const queries = "query k { var v: bool; return v; } query l { var v: int[0, 15]; return v; } "
	checkTexts(t, "func f() { var b: bool; var i: int[0, 9]; ", verdicts{
		{"b ~ posterior k; return b; } " + queries, api.OK}, {"i ~ posterior l; return b; } " + queries, api.OK}, {"b ~ posterior l; return b; } " + queries, api.ErrType}, {"i ~ posterior k; return b; } " + queries, api.ErrType}, {"b ~ posterior f; return b; } " + queries, api.ErrName},
		{"b ~ posterior k; return b; } query k { return z; } ", api.ErrName}, {"i ~ posterior k; return b; } query k { return z; } ", api.ErrName},
		{"i ~ posterior k; return b; } query k { var v: (bool, bool); return v; } ", api.ErrClass}, {"b ~ posterior k; return b; } query k { var v: int[0, 99]; return v; } ", api.ErrType}, {"i ~ posterior k; return b; } query k { var v: int[0, 99]; return v; } ", api.ErrClass},
		{"i ~ posterior k; return b; } query k { var v: nat; return v; } ", api.ErrClass}, {"i ~ posterior k; return b; } query k { var v: int[1, 0]; return v; } ", api.ErrRange}, {"b ~ posterior k; return b; } query k { var v: int[1, 0]; return v; } ", api.ErrType},
	}, truth)
	checkTexts(t, queries+"query m { var b: bool; var i: int[0, 9]; ", verdicts{
		{"b ~ posterior k; ", api.OK}, {"i ~ posterior l; ", api.OK}, {"b ~ posterior l; ", api.ErrType}, {"i ~ posterior k; ", api.ErrType}, {"b ~ posterior m; ", api.ErrName}, {"b ~ posterior n; ", api.ErrName}, {"i ~ posterior n; ", api.ErrName}, {"b ~ posterior o; ", api.ErrName}, {"z ~ posterior k; ", api.ErrName},
	}, "return b; } query n { var v: bool; return v; } "+truth)
}

// A parameter in a probability of a query is the last error of a draw.
func TestParametersInQueries(t *testing.T) {
	checkTexts(t, "param p; param r; query k { var b: bool; var i: int[0, 9]; ", verdicts{
		{"b ~ flip(1/2); ", api.OK}, {"b ~ flip(p); ", api.ErrClass}, {"b ~ flip(1 - r); ", api.ErrClass}, {"b ~ flip(p - p); ", api.OK}, {"b ~ flip(0 * r); ", api.OK}, {"b ~ flip((1 - p) * 1/2 + p * 1/2); ", api.OK}, {"i ~ flip(p); ", api.ErrType}, {"b ~ flip(p + z); ", api.ErrName}, {"z ~ flip(p); ", api.ErrName},
		{"i ~ table(0; 1/2, 1/2); ", api.OK}, {"i ~ table(0; p, 1 - p); ", api.ErrClass}, {"i ~ table(0; 0, r - r, 1 - p, p); ", api.ErrClass}, {"i ~ table(0; p - p, 1); ", api.OK}, {"i ~ table(0; p, 1 - r); ", api.ErrRange}, {"b ~ table(0; p, 1 - p); ", api.ErrType},
		{"i ~ binomial(3, 1/2); ", api.OK}, {"i ~ binomial(3, p); ", api.ErrClass}, {"i ~ binomial(0, r); ", api.ErrClass}, {"i ~ binomial(9, p * p); ", api.ErrLimit}, {"b ~ binomial(9, p); ", api.ErrType}, {"i ~ binomial(9, p * p - p * p); ", api.OK},
		{"weight 1/2; ", api.OK}, {"weight p; ", api.ErrClass}, {"weight p - p; ", api.OK}, {"weight p + z; ", api.ErrName}, {"weight p - p + 2; ", api.ErrRange}, {"weight r * p; ", api.ErrClass},
		{"i ~ uniform(0, 9); ", api.OK}, {"b ~ flip(p); z := b; ", api.ErrClass}, {"z := b; b ~ flip(p); ", api.ErrName},
	}, "return b; } "+truth)
}
