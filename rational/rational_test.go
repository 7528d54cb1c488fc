package rational_test

import (
	"math"
	"math/big"
	"math/rand/v2"
	"slices"
	"strings"
	"testing"

	"exactppl/api"
	"exactppl/rational"
)

// limbs are the limbs at which carries and borrows go wrong most easily.
var limbs = []uint32{0, 1, 2, 6, 1<<31 - 1, 1 << 31, 1<<32 - 1}

// randomLimbs returns a natural number of at most n limbs, in some cases with zero limbs at the end.
func randomLimbs(r *rand.Rand, n int) []uint32 {
	a := make([]uint32, r.IntN(n+1))
	for i := range a {
		a[i] = r.Uint32()
		if r.IntN(2) == 0 {
			a[i] = limbs[r.IntN(len(limbs))]
		}
	}
	return append(a, make([]uint32, r.IntN(2))...)
}

// random returns a Rat of any form: not in lowest terms, with zero limbs, or with the denominator zero.
func random(r *rand.Rand, n int) api.Rat {
	return api.Rat{Neg: r.IntN(2) == 0, Num: randomLimbs(r, n), Den: randomLimbs(r, n)}
}

// rats returns Rats of all forms, among them many representations of the same numbers.
func rats() []api.Rat {
	var l []api.Rat
	parts := [][]uint32{nil, {0, 0}, {1}, {2, 0}, {3}, {4}, {6, 0, 0}, {1<<32 - 1}, {0, 1}, {0, 2, 0}, {1<<32 - 1, 1<<31 - 1}, {5, 7, 9}}
	for _, num := range parts {
		for _, den := range parts {
			l = append(l, api.Rat{Num: num, Den: den}, api.Rat{Neg: true, Num: num, Den: den})
		}
	}
	r := rand.New(rand.NewPCG(1, 2))
	for range 60 {
		l = append(l, random(r, 5))
	}
	return l
}

func toInt(a []uint32) *big.Int {
	n := new(big.Int)
	for _, limb := range slices.Backward(a) {
		n.Lsh(n, 32).Or(n, new(big.Int).SetUint64(uint64(limb)))
	}
	return n
}

// toBig returns the number that a denotes.
func toBig(a api.Rat) *big.Rat {
	num, den := toInt(a.Num), toInt(a.Den)
	if den.Sign() == 0 {
		return new(big.Rat)
	}
	if a.Neg {
		num.Neg(num)
	}
	return new(big.Rat).SetFrac(num, den)
}

// fromBig returns the normal form of x.
func fromBig(x *big.Rat) api.Rat {
	split := func(n *big.Int) []uint32 {
		var a []uint32
		for n = new(big.Int).Abs(n); n.Sign() > 0; n.Rsh(n, 32) {
			a = append(a, uint32(new(big.Int).And(n, big.NewInt(math.MaxUint32)).Uint64()))
		}
		return a
	}
	return api.Rat{Neg: x.Sign() < 0, Num: split(x.Num()), Den: split(x.Denom())}
}

func sameFields(a, b api.Rat) bool {
	return a.Neg == b.Neg && slices.Equal(a.Num, b.Num) && slices.Equal(a.Den, b.Den)
}

// check reports a result that is not the normal form of want.
func check(t *testing.T, got api.Rat, want *big.Rat, call string, args ...any) {
	t.Helper()
	if !sameFields(got, fromBig(want)) {
		t.Fatalf("%s%v is %v, not %v", call, args, got, fromBig(want))
	}
}

// checkError reports an error other than want, and a result beside an error.
func checkError(t *testing.T, e, want api.Errno, result api.Rat, call string, args ...any) {
	t.Helper()
	if e != want {
		t.Fatalf("%s%v: error %d, not %d", call, args, e, want)
	}
	if e != api.OK && !sameFields(result, api.Rat{}) {
		t.Fatalf("%s%v: the result %v beside the error %d", call, args, result, e)
	}
}

// P2.1

func TestNorm(t *testing.T) {
	for _, c := range []struct{ a, want api.Rat }{
		{api.Rat{}, api.Rat{Den: []uint32{1}}},
		{api.Rat{Neg: true}, api.Rat{Den: []uint32{1}}},
		{api.Rat{Neg: true, Num: []uint32{0, 0}, Den: []uint32{9}}, api.Rat{Den: []uint32{1}}},
		{api.Rat{Neg: true, Num: []uint32{5}, Den: []uint32{0, 0}}, api.Rat{Den: []uint32{1}}},
		{api.Rat{Num: []uint32{5}}, api.Rat{Den: []uint32{1}}},
		{api.Rat{Num: []uint32{8, 0}, Den: []uint32{4, 0, 0}}, api.Rat{Num: []uint32{2}, Den: []uint32{1}}},
		{api.Rat{Neg: true, Num: []uint32{6}, Den: []uint32{4}}, api.Rat{Neg: true, Num: []uint32{3}, Den: []uint32{2}}},
		{api.Rat{Num: []uint32{0, 3}, Den: []uint32{0, 6}}, api.Rat{Num: []uint32{1}, Den: []uint32{2}}},
	} {
		if got := rational.Norm(c.a); !sameFields(got, c.want) {
			t.Errorf("Norm(%v) is %v, not %v", c.a, got, c.want)
		}
	}
	for _, a := range rats() {
		got := rational.Norm(a)
		check(t, got, toBig(a), "Norm", a)
		check(t, rational.Norm(got), toBig(a), "Norm", got)
	}
}

func TestInt(t *testing.T) {
	for _, n := range []int{0, 1, -1, 2, -7, 1000, 1<<32 - 1, 1 << 32, -1 << 32, 1<<32 + 1, math.MaxInt64, math.MinInt64 + 1, math.MinInt64} {
		check(t, rational.Int(n), new(big.Rat).SetInt64(int64(n)), "Int", n)
	}
}

func TestNew(t *testing.T) {
	all := []int{0, 1, -1, 2, 3, -6, 12, 1 << 32, -3 << 32, math.MaxInt64, math.MinInt64 + 1, math.MinInt64, math.MinInt64 / 2}
	for _, num := range all {
		for _, den := range all {
			got, e := rational.New(num, den)
			if den == 0 {
				checkError(t, e, api.ErrDivide, got, "New", num, den)
				continue
			}
			checkError(t, e, api.OK, got, "New", num, den)
			check(t, got, new(big.Rat).SetFrac(big.NewInt(int64(num)), big.NewInt(int64(den))), "New", num, den)
		}
	}
}

func TestMake(t *testing.T) {
	for _, a := range rats() {
		got, e := rational.Make(a.Neg, a.Num, a.Den)
		if toInt(a.Den).Sign() == 0 {
			checkError(t, e, api.ErrDivide, got, "Make", a)
			continue
		}
		checkError(t, e, api.OK, got, "Make", a)
		check(t, got, toBig(a), "Make", a)
	}
}

// P2.2

// checkArithmetic compares all operations on two numbers with math/big.
func checkArithmetic(t *testing.T, a, b api.Rat) {
	t.Helper()
	x, y := toBig(a), toBig(b)
	check(t, rational.Add(a, b), new(big.Rat).Add(x, y), "Add", a, b)
	check(t, rational.Sub(a, b), new(big.Rat).Sub(x, y), "Sub", a, b)
	check(t, rational.Mul(a, b), new(big.Rat).Mul(x, y), "Mul", a, b)
	got, e := rational.Div(a, b)
	if y.Sign() == 0 {
		checkError(t, e, api.ErrDivide, got, "Div", a, b)
		return
	}
	checkError(t, e, api.OK, got, "Div", a, b)
	check(t, got, new(big.Rat).Quo(x, y), "Div", a, b)
}

func TestArithmetic(t *testing.T) {
	all := rats()
	for _, a := range all {
		for _, b := range all {
			checkArithmetic(t, a, b)
		}
		check(t, rational.Neg(a), new(big.Rat).Neg(toBig(a)), "Neg", a)
		checkArithmetic(t, a, rational.Neg(a))
	}
	r := rand.New(rand.NewPCG(3, 4))
	for range 3000 {
		checkArithmetic(t, random(r, 8), random(r, 8))
	}
}

func TestDivByZero(t *testing.T) {
	for _, b := range []api.Rat{{}, {Neg: true}, {Den: []uint32{1}}, {Num: []uint32{0}, Den: []uint32{5}}, {Num: []uint32{7}}, {Neg: true, Num: []uint32{7}, Den: []uint32{0}}} {
		for _, a := range []api.Rat{{}, rational.Int(1), rational.Int(-5), b} {
			got, e := rational.Div(a, b)
			checkError(t, e, api.ErrDivide, got, "Div", a, b)
		}
	}
}

func TestPow(t *testing.T) {
	for _, a := range append(rats()[:80], rational.Int(-1), rational.Int(math.MinInt64), api.Rat{Neg: true, Num: []uint32{4}, Den: []uint32{6}}) {
		want := big.NewRat(1, 1)
		for n := 0; n <= api.MaxPower; n++ {
			got, e := rational.Pow(a, n)
			checkError(t, e, api.OK, got, "Pow", a, n)
			check(t, got, want, "Pow", a, n)
			want = new(big.Rat).Mul(want, toBig(a))
		}
		for _, n := range []int{-1, api.MaxPower + 1, math.MinInt64, math.MaxInt64} {
			got, e := rational.Pow(a, n)
			checkError(t, e, api.ErrRange, got, "Pow", a, n)
		}
	}
}

// P2.3

func TestOrder(t *testing.T) {
	all := rats()
	for _, a := range all {
		x := toBig(a)
		if got := rational.Sign(a); got != x.Sign() {
			t.Fatalf("Sign(%v) is %d", a, got)
		}
		for _, b := range all {
			want := x.Cmp(toBig(b))
			if got := rational.Cmp(a, b); got != want {
				t.Fatalf("Cmp(%v, %v) is %d, not %d", a, b, got, want)
			}
			if got := rational.Equal(a, b); got != (want == 0) {
				t.Fatalf("Equal(%v, %v) is %v", a, b, got)
			}
		}
	}
}

// Fractions that differ by little, and by their signs only.
func TestOrderOfNeighbours(t *testing.T) {
	r := rand.New(rand.NewPCG(5, 6))
	for range 2000 {
		a := random(r, 6)
		little := api.Rat{Neg: r.IntN(2) == 0, Num: []uint32{1}, Den: []uint32{0, 0, 0, 0, 0, 0, 0, 0, 0, 0, 0, 0, 0, 1}}
		for _, b := range []api.Rat{rational.Add(a, little), rational.Neg(a), rational.Norm(a)} {
			if got, want := rational.Cmp(a, b), toBig(a).Cmp(toBig(b)); got != want || rational.Equal(a, b) != (want == 0) {
				t.Fatalf("Cmp(%v, %v) is %d, not %d", a, b, got, want)
			}
		}
	}
}

// P2.4

// number returns the number that s denotes; big.Rat would read a denominator with a leading zero as octal.
func number(t *testing.T, s string) *big.Rat {
	t.Helper()
	first, second, found := strings.Cut(s, "/")
	if !found {
		second = "1"
	}
	num, numOK := new(big.Int).SetString(first, 10)
	den, denOK := new(big.Int).SetString(second, 10)
	if !numOK || !denOK {
		t.Fatalf("%q is not a number", s)
	}
	return new(big.Rat).SetFrac(num, den)
}

func TestParse(t *testing.T) {
	many := strings.Repeat("9", api.MaxDigits)
	for _, s := range []string{
		"0", "-0", "00", "0/1", "-0/7", "0/007", "7", "-7", "007", "1/2", "-1/2", "007/014", "10/5", "-10/5", "6/4",
		"4294967296/4294967297", "-18446744073709551616/3", many, "-" + many, many + "/" + many, "1/" + many, "-" + many + "/2",
		strings.Repeat("0", api.MaxDigits-1) + "1/" + strings.Repeat("0", api.MaxDigits-1) + "3",
	} {
		got, e := rational.Parse(s)
		checkError(t, e, api.OK, got, "Parse", s)
		check(t, got, number(t, s), "Parse", s)
	}
}

func TestParseErrors(t *testing.T) {
	long := strings.Repeat("1", api.MaxDigits+1)
	zeros := strings.Repeat("0", api.MaxDigits+1)
	for _, c := range []struct {
		s string
		e api.Errno
	}{
		{"", api.ErrSyntax}, {"-", api.ErrSyntax}, {"/", api.ErrSyntax}, {"-/", api.ErrSyntax}, {"1/", api.ErrSyntax},
		{"/2", api.ErrSyntax}, {"-/2", api.ErrSyntax}, {"1/-2", api.ErrSyntax}, {"1/+2", api.ErrSyntax}, {"+1", api.ErrSyntax},
		{"--1", api.ErrSyntax}, {"1-", api.ErrSyntax}, {"1/2/3", api.ErrSyntax}, {"1//2", api.ErrSyntax}, {"1/2/", api.ErrSyntax},
		{" 1", api.ErrSyntax}, {"1 ", api.ErrSyntax}, {"- 1", api.ErrSyntax}, {"1 /2", api.ErrSyntax}, {"1/ 2", api.ErrSyntax},
		{"1.5", api.ErrSyntax}, {"1e3", api.ErrSyntax}, {"0x1", api.ErrSyntax}, {"1_0", api.ErrSyntax}, {"a", api.ErrSyntax},
		{"1/a", api.ErrSyntax}, {"a/1", api.ErrSyntax}, {"1\n", api.ErrSyntax}, {"1\x00", api.ErrSyntax}, {"\xff/1", api.ErrSyntax},
		{"\u2212\u0031", api.ErrSyntax}, {"\u0661/\u0662", api.ErrSyntax}, // a minus sign and digits beyond ASCII
		{"x/0", api.ErrSyntax}, {"/0", api.ErrSyntax}, {"1/0/0", api.ErrSyntax},
		{long + "/x", api.ErrSyntax}, {"x/" + long, api.ErrSyntax}, {long + "/", api.ErrSyntax}, {long + "x", api.ErrSyntax},
		{"-" + long + "/1/", api.ErrSyntax},
		{long, api.ErrLimit}, {"-" + long, api.ErrLimit}, {"0" + long[1:] + "/1", api.ErrLimit}, {"1/" + long, api.ErrLimit},
		{long + "/" + long, api.ErrLimit}, {long + "/0", api.ErrLimit}, {"1/" + zeros, api.ErrLimit}, {zeros + "/1", api.ErrLimit},
		{zeros + "/" + zeros, api.ErrLimit}, {strings.Repeat("7", 100000), api.ErrLimit},
		{"1/0", api.ErrDivide}, {"0/0", api.ErrDivide}, {"-1/0", api.ErrDivide}, {"0/00", api.ErrDivide}, {"5/" + zeros[1:], api.ErrDivide},
	} {
		got, e := rational.Parse(c.s)
		checkError(t, e, c.e, got, "Parse", c.s)
	}
}

func TestFormat(t *testing.T) {
	for _, c := range []struct {
		a    api.Rat
		want string
	}{
		{api.Rat{}, "0"}, {api.Rat{Neg: true}, "0"}, {api.Rat{Neg: true, Num: []uint32{4}}, "0"},
		{api.Rat{Neg: true, Den: []uint32{3}}, "0"},
		{api.Rat{Neg: true, Num: []uint32{6}, Den: []uint32{4}}, "-3/2"},
		{api.Rat{Num: []uint32{6}, Den: []uint32{3, 0}}, "2"}, {api.Rat{Neg: true, Num: []uint32{6}, Den: []uint32{6}}, "-1"},
		{api.Rat{Num: []uint32{1}, Den: []uint32{11}}, "1/11"}, {api.Rat{Num: []uint32{0, 1}, Den: []uint32{7}}, "4294967296/7"},
		{rational.Int(math.MinInt64), "-9223372036854775808"},
	} {
		if got := rational.Format(c.a); got != c.want {
			t.Errorf("Format(%v) is %s, not %s", c.a, got, c.want)
		}
	}
	for _, a := range rats() {
		if got, want := rational.Format(a), toBig(a).RatString(); got != want {
			t.Fatalf("Format(%v) is %s, not %s", a, got, want)
		}
	}
}

// P2.5

// Equal numbers have the same fields in normal form, whatever computed them.
func TestNormalForms(t *testing.T) {
	all := rats()
	for _, a := range all {
		for _, b := range all {
			if rational.Equal(a, b) != sameFields(rational.Norm(a), rational.Norm(b)) {
				t.Fatalf("Equal(%v, %v) is %v", a, b, rational.Equal(a, b))
			}
		}
	}
	half, e := rational.New(-3, -6)
	if e != api.OK {
		t.Fatal(e)
	}
	fraction, e := rational.Parse("2/4")
	if e != api.OK || !sameFields(half, fraction) || !sameFields(half, rational.Sub(rational.Int(1), half)) {
		t.Error("1/2", half, fraction)
	}
}

func same(t *testing.T, law string, got, want api.Rat) {
	t.Helper()
	if !sameFields(got, want) {
		t.Fatalf("%s: %v is not %v", law, got, want)
	}
}

// quotient returns a / b, b not being zero.
func quotient(t *testing.T, a, b api.Rat) api.Rat {
	t.Helper()
	q, e := rational.Div(a, b)
	if e != api.OK {
		t.Fatalf("Div(%v, %v): error %d", a, b, e)
	}
	return q
}

func TestFieldLaws(t *testing.T) {
	r := rand.New(rand.NewPCG(7, 8))
	zero, one := rational.Int(0), rational.Int(1)
	for range 2000 {
		a, b, c := random(r, 4), random(r, 4), random(r, 4)
		sum, product := rational.Add(a, b), rational.Mul(a, b)
		same(t, "a + b = b + a", sum, rational.Add(b, a))
		same(t, "a b = b a", product, rational.Mul(b, a))
		same(t, "(a + b) + c = a + (b + c)", rational.Add(sum, c), rational.Add(a, rational.Add(b, c)))
		same(t, "(a b) c = a (b c)", rational.Mul(product, c), rational.Mul(a, rational.Mul(b, c)))
		same(t, "(a + b) c = a c + b c", rational.Mul(sum, c), rational.Add(rational.Mul(a, c), rational.Mul(b, c)))
		same(t, "a + 0 = a", rational.Add(a, zero), rational.Norm(a))
		same(t, "a 1 = a", rational.Mul(a, one), rational.Norm(a))
		same(t, "a + (-a) = 0", rational.Add(a, rational.Neg(a)), zero)
		same(t, "a - b = a + (-b)", rational.Sub(a, b), rational.Add(a, rational.Neg(b)))
		if rational.Sign(b) != 0 {
			same(t, "b (1/b) = 1", rational.Mul(b, quotient(t, one, b)), one)
			same(t, "(a b) / b = a", quotient(t, product, b), rational.Norm(a))
		}
	}
}

func TestOrderLaws(t *testing.T) {
	r := rand.New(rand.NewPCG(9, 10))
	for range 2000 {
		a, b, c := random(r, 4), random(r, 4), random(r, 4)
		order := rational.Cmp(a, b)
		if rational.Cmp(b, a) != -order || rational.Cmp(rational.Neg(a), rational.Neg(b)) != -order {
			t.Fatalf("Cmp(%v, %v) is %d", a, b, order)
		}
		if rational.Cmp(rational.Add(a, c), rational.Add(b, c)) != order || rational.Sign(rational.Sub(a, b)) != order {
			t.Fatalf("Cmp(%v, %v) is %d", a, b, order)
		}
		if got := rational.Cmp(rational.Mul(a, c), rational.Mul(b, c)); got != order*rational.Sign(c) {
			t.Fatalf("Cmp of the products of %v and %v with %v is %d", a, b, c, got)
		}
		if got := rational.Cmp(a, c); order >= 0 && rational.Cmp(b, c) >= 0 && got < 0 {
			t.Fatalf("%v, %v and %v are not in order", a, b, c)
		}
	}
}

func TestParseOfFormat(t *testing.T) {
	most := strings.Repeat("9", api.MaxDigits)
	one, over := "1"+strings.Repeat("0", api.MaxDigits-1), "1"+strings.Repeat("0", api.MaxDigits)
	for _, s := range []string{most, "-" + most + "/" + one, "1/" + most, one + "/7", over, "1/" + over, "-" + over + "/3"} {
		a := fromBig(number(t, s))
		got, e := rational.Parse(rational.Format(a))
		if strings.Contains(s, over) {
			checkError(t, e, api.ErrLimit, got, "Parse(Format)", s)
			continue
		}
		checkError(t, e, api.OK, got, "Parse(Format)", s)
		same(t, "Parse(Format(a)) = a", got, a)
	}
	for _, a := range rats() {
		got, e := rational.Parse(rational.Format(a))
		checkError(t, e, api.OK, got, "Parse(Format)", a)
		same(t, "Parse(Format(a)) = a", got, rational.Norm(a))
	}
}

// R3 and R5

// results calls all functions that return fractions.
func results(a, b api.Rat) []api.Rat {
	made, _ := rational.Make(a.Neg, a.Num, a.Den)
	divided, _ := rational.Div(a, b)
	power, _ := rational.Pow(a, 1)
	one, _ := rational.Pow(a, 0)
	return []api.Rat{rational.Norm(a), made, rational.Add(a, b), rational.Sub(a, b), rational.Mul(a, b), divided, rational.Neg(a), power, one}
}

// wide returns a copy of a with other limbs in the memory behind it.
func wide(a []uint32) []uint32 {
	return append(slices.Clone(a), 77, 78)[:len(a)]
}

// TestMemory overwrites every result, and the memory behind it, and sees whether an argument or another result changes.
func TestMemory(t *testing.T) {
	all := rats()[:150]
	for _, a := range all {
		for _, b := range all[100:] {
			args := [][]uint32{wide(a.Num), wide(a.Den), wide(b.Num), wide(b.Den)}
			var keep [][]uint32
			for _, x := range args {
				keep = append(keep, slices.Clone(x[:cap(x)]))
			}
			got := results(api.Rat{Neg: a.Neg, Num: args[0], Den: args[1]}, api.Rat{Neg: b.Neg, Num: args[2], Den: args[3]})
			for i, want := range results(a, b) {
				if !sameFields(got[i], want) {
					t.Fatalf("the result %d of %v, %v is %v, not %v", i, a, b, got[i], want)
				}
				overwrite(got[i].Num)
				if !slices.Equal(got[i].Den, want.Den) {
					t.Fatalf("the result %d of %v, %v has one memory for both parts", i, a, b)
				}
				overwrite(got[i].Den)
			}
			for i, x := range args {
				if !slices.Equal(x[:cap(x)], keep[i]) {
					t.Fatalf("an argument changed: %v, %v", a, b)
				}
			}
		}
	}
}

func overwrite(a []uint32) {
	for i := range a[:cap(a)] {
		a[:cap(a)][i] = 123456
	}
}

// The functions without a fraction as a result change nothing either, and the parts of an argument may share memory.
func TestSameArgument(t *testing.T) {
	for _, a := range rats() {
		keep := api.Rat{Neg: a.Neg, Num: slices.Clone(a.Num), Den: slices.Clone(a.Den)}
		checkArithmetic(t, a, a)
		rational.Cmp(a, a)
		rational.Sign(a)
		rational.Equal(a, a)
		rational.Format(a)
		if !sameFields(a, keep) {
			t.Fatalf("the argument %v became %v", keep, a)
		}
		shared := api.Rat{Neg: a.Neg, Num: a.Num, Den: a.Num}
		check(t, rational.Norm(shared), toBig(shared), "Norm", shared)
	}
}
