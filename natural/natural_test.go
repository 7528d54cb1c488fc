package natural_test

import (
	"math"
	"math/big"
	"math/rand/v2"
	"slices"
	"strings"
	"testing"

	"exactppl/api"
	"exactppl/natural"
)

// limbs are the limbs at which carries, borrows and guesses go wrong most easily.
var limbs = []uint32{0, 1, 2, 1<<31 - 1, 1 << 31, 1<<31 + 1, 1<<32 - 2, 1<<32 - 1}

// random returns a number of at most n limbs, many of them extreme, in some cases with zero limbs at the end.
func random(r *rand.Rand, n int) []uint32 {
	a := make([]uint32, r.IntN(n+1))
	for i := range a {
		a[i] = r.Uint32()
		if r.IntN(2) == 0 {
			a[i] = limbs[r.IntN(len(limbs))]
		}
	}
	return append(a, make([]uint32, r.IntN(3))...)
}

// numbers returns short numbers made of extreme limbs, and long ones, with and without zero limbs at the end.
func numbers() [][]uint32 {
	l := [][]uint32{nil, {}, {0}, {0, 0, 0}}
	for _, x := range limbs {
		l = append(l, []uint32{x}, []uint32{x, 0})
		for _, y := range limbs {
			l = append(l, []uint32{x, y}, []uint32{y, 0, x, 0})
		}
	}
	r := rand.New(rand.NewPCG(1, 2))
	for _, n := range []int{3, 5, 9, 40} {
		for range 12 {
			l = append(l, random(r, n))
		}
	}
	return l
}

// toBig returns a number as a big.Int.
func toBig(a []uint32) *big.Int {
	n := new(big.Int)
	for _, limb := range slices.Backward(a) {
		n.Lsh(n, 32).Or(n, new(big.Int).SetUint64(uint64(limb)))
	}
	return n
}

// digits returns the number that s denotes; s may have any length.
func digits(t *testing.T, s string) []uint32 {
	t.Helper()
	n, ok := new(big.Int).SetString(s, 10)
	if !ok {
		t.Fatalf("%q is not a number", s)
	}
	var a []uint32
	for mask := big.NewInt(math.MaxUint32); n.Sign() > 0; n.Rsh(n, 32) {
		a = append(a, uint32(new(big.Int).And(n, mask).Uint64()))
	}
	return a
}

// check reports a result that does not denote want, or that has a zero limb at the end.
func check(t *testing.T, got []uint32, want *big.Int, call string, args ...any) {
	t.Helper()
	if len(got) > 0 && got[len(got)-1] == 0 {
		t.Fatalf("%s%v: the result %v has a zero limb at the end", call, args, got)
	}
	if toBig(got).Cmp(want) != 0 {
		t.Fatalf("%s%v: the result is %v, not %v", call, args, toBig(got), want)
	}
}

// checkError reports an error other than want, and a result beside an error.
func checkError(t *testing.T, e, want api.Errno, result []uint32, call string, args ...any) {
	t.Helper()
	if e != want {
		t.Fatalf("%s%v: error %d, not %d", call, args, e, want)
	}
	if e != api.OK && len(result) != 0 {
		t.Fatalf("%s%v: the result %v beside the error %d", call, args, result, e)
	}
}

// P1.1

func TestTrim(t *testing.T) {
	for _, c := range []struct{ a, want []uint32 }{
		{nil, nil}, {[]uint32{}, nil}, {[]uint32{0}, nil}, {[]uint32{0, 0, 0}, nil},
		{[]uint32{5}, []uint32{5}}, {[]uint32{5, 0, 0}, []uint32{5}},
		{[]uint32{0, 5}, []uint32{0, 5}}, {[]uint32{0, 0, 5, 0}, []uint32{0, 0, 5}},
		{[]uint32{1, 0, 2, 0}, []uint32{1, 0, 2}},
	} {
		if got := natural.Trim(c.a); !slices.Equal(got, c.want) {
			t.Errorf("Trim(%v) is %v, not %v", c.a, got, c.want)
		}
	}
}

func TestFromInt(t *testing.T) {
	for _, c := range []struct {
		n    int
		want []uint32
		e    api.Errno
	}{
		{0, nil, api.OK}, {1, []uint32{1}, api.OK},
		{1<<32 - 1, []uint32{1<<32 - 1}, api.OK}, {1 << 32, []uint32{0, 1}, api.OK},
		{5<<32 + 7, []uint32{7, 5}, api.OK},
		{math.MaxInt64, []uint32{1<<32 - 1, 1<<31 - 1}, api.OK},
		{-1, nil, api.ErrRange}, {math.MinInt64, nil, api.ErrRange},
	} {
		if got, e := natural.FromInt(c.n); e != c.e || !slices.Equal(got, c.want) {
			t.Errorf("FromInt(%d) is %v, error %d, not %v, error %d", c.n, got, e, c.want, c.e)
		}
	}
}

func TestInt(t *testing.T) {
	for _, c := range []struct {
		a    []uint32
		want int
		e    api.Errno
	}{
		{nil, 0, api.OK}, {[]uint32{0, 0, 0, 0}, 0, api.OK},
		{[]uint32{3, 0, 0, 0}, 3, api.OK}, {[]uint32{7, 5}, 5<<32 + 7, api.OK},
		{[]uint32{1<<32 - 1, 1<<31 - 1}, math.MaxInt64, api.OK},
		{[]uint32{1<<32 - 1, 1<<31 - 1, 0}, math.MaxInt64, api.OK},
		{[]uint32{0, 1 << 31}, 0, api.ErrRange},
		{[]uint32{1<<32 - 1, 1<<32 - 1}, 0, api.ErrRange},
		{[]uint32{0, 0, 1}, 0, api.ErrRange},
		{[]uint32{5, 0, 1, 0}, 0, api.ErrRange},
	} {
		if got, e := natural.Int(c.a); e != c.e || got != c.want {
			t.Errorf("Int(%v) is %d, error %d, not %d, error %d", c.a, got, e, c.want, c.e)
		}
	}
}

func TestCmp(t *testing.T) {
	all := numbers()
	for _, a := range all {
		for _, b := range all {
			if got, want := natural.Cmp(a, b), toBig(a).Cmp(toBig(b)); got != want {
				t.Fatalf("Cmp(%v, %v) is %d, not %d", a, b, got, want)
			}
		}
	}
}

// P1.2

func TestSumsAndProducts(t *testing.T) {
	all := numbers()
	for _, a := range all {
		for _, b := range all {
			x, y := toBig(a), toBig(b)
			check(t, natural.Add(a, b), new(big.Int).Add(x, y), "Add", a, b)
			check(t, natural.Mul(a, b), new(big.Int).Mul(x, y), "Mul", a, b)
			d, e := natural.Sub(a, b)
			if x.Cmp(y) < 0 {
				checkError(t, e, api.ErrRange, d, "Sub", a, b)
				continue
			}
			checkError(t, e, api.OK, d, "Sub", a, b)
			check(t, d, new(big.Int).Sub(x, y), "Sub", a, b)
		}
	}
}

// checkDivMod compares DivMod with the division of math/big.
func checkDivMod(t *testing.T, a, b []uint32) {
	t.Helper()
	q, r, e := natural.DivMod(a, b)
	x, y := toBig(a), toBig(b)
	if y.Sign() == 0 {
		checkError(t, e, api.ErrDivide, q, "DivMod", a, b)
		checkError(t, e, api.ErrDivide, r, "DivMod", a, b)
		return
	}
	checkError(t, e, api.OK, q, "DivMod", a, b)
	wantQ, wantR := new(big.Int).QuoRem(x, y, new(big.Int))
	check(t, q, wantQ, "quotient of DivMod", a, b)
	check(t, r, wantR, "remainder of DivMod", a, b)
}

func TestDivMod(t *testing.T) {
	q, r, e := natural.DivMod([]uint32{17}, []uint32{5})
	if e != api.OK || !slices.Equal(q, []uint32{3}) || !slices.Equal(r, []uint32{2}) {
		t.Error("17 / 5", q, r, e)
	}
	all := numbers()
	for _, a := range all {
		for _, b := range all {
			checkDivMod(t, a, b)
		}
	}
	random1, random2 := rand.New(rand.NewPCG(3, 4)), rand.New(rand.NewPCG(5, 6))
	for range 20000 {
		checkDivMod(t, random(random1, 8), random(random2, 5))
	}
}

// The divisions in which the guess of a limb is too great (Warren, Hacker's Delight, and its limits).
func TestDivModGuesses(t *testing.T) {
	for _, c := range []struct{ a, b []uint32 }{
		{[]uint32{3, 0, 1 << 31}, []uint32{1, 0, 1 << 29}},
		{[]uint32{0, 1<<32 - 2, 1 << 31}, []uint32{1<<32 - 1, 1 << 31}},
		{[]uint32{0, 0, 1 << 31, 1<<31 - 1}, []uint32{1, 0, 1 << 31}},
		{[]uint32{0, 1<<32 - 2, 0, 1 << 31}, []uint32{1<<32 - 1, 0, 1 << 31}},
		{[]uint32{0, 0, 0, 1 << 31}, []uint32{1<<32 - 1, 1<<32 - 1, 1 << 31}},
		{[]uint32{0, 0, 1<<32 - 1, 1<<32 - 1}, []uint32{1<<32 - 1, 1<<32 - 1, 1<<32 - 1}},
		{[]uint32{1<<32 - 1, 1<<32 - 1, 1<<32 - 2, 1<<32 - 1}, []uint32{1<<32 - 1, 1<<32 - 1}},
	} {
		checkDivMod(t, c.a, c.b)
	}
}

func TestDivModByZero(t *testing.T) {
	for _, a := range [][]uint32{nil, {0}, {5}, {1, 2, 3}} {
		for _, b := range [][]uint32{nil, {}, {0}, {0, 0}} {
			checkDivMod(t, a, b)
		}
	}
}

// P1.3

// checkGCD compares GCD with that of math/big, which is the other number if one is zero.
func checkGCD(t *testing.T, a, b []uint32) {
	t.Helper()
	check(t, natural.GCD(a, b), new(big.Int).GCD(nil, nil, toBig(a), toBig(b)), "GCD", a, b)
}

func TestGCD(t *testing.T) {
	all := numbers()
	for _, a := range all {
		for _, b := range all {
			checkGCD(t, a, b)
		}
	}
	r := rand.New(rand.NewPCG(7, 8))
	for range 5000 {
		a, b, common := random(r, 12), random(r, 12), random(r, 6)
		checkGCD(t, a, b)
		checkGCD(t, natural.Mul(a, common), natural.Mul(b, common))
	}
}

// Neighbouring Fibonacci numbers make the most steps, all with the quotient 1.
func TestGCDOfFibonacciNumbers(t *testing.T) {
	a, b := []uint32{1}, []uint32{1}
	for range 1000 {
		a, b = b, natural.Add(a, b)
		checkGCD(t, a, b)
		checkGCD(t, b, a)
	}
}

// Numbers of very different lengths, and numbers with equal leading limbs.
func TestGCDOfUnlikeNumbers(t *testing.T) {
	r := rand.New(rand.NewPCG(9, 10))
	for range 500 {
		long, short := random(r, 60), random(r, 4)
		checkGCD(t, long, short)
		checkGCD(t, short, long)
		checkGCD(t, long, natural.Add(long, short))
		checkGCD(t, natural.Mul(long, long), long)
	}
}

func TestPow(t *testing.T) {
	for _, a := range [][]uint32{nil, {0, 0}, {1}, {2}, {3, 0}, {10}, {1<<32 - 1}, {0, 1}, {7, 8, 9}} {
		for n := 0; n <= api.MaxPower; n++ {
			got, e := natural.Pow(a, n)
			checkError(t, e, api.OK, got, "Pow", a, n)
			check(t, got, new(big.Int).Exp(toBig(a), big.NewInt(int64(n)), nil), "Pow", a, n)
		}
		for _, n := range []int{-1, api.MaxPower + 1, math.MinInt64, math.MaxInt64} {
			got, e := natural.Pow(a, n)
			checkError(t, e, api.ErrRange, got, "Pow", a, n)
		}
	}
	if got, e := natural.Pow(nil, 0); e != api.OK || !slices.Equal(got, []uint32{1}) {
		t.Error("0^0", got, e)
	}
}

// P1.4

func TestParse(t *testing.T) {
	many := strings.Repeat("9", api.MaxDigits)
	for _, s := range []string{
		"0", "00", "7", "007", "4294967295", "4294967296", "18446744073709551616", "1000000000000000000",
		many, "1" + many[1:], strings.Repeat("0", api.MaxDigits), strings.Repeat("0", api.MaxDigits-1) + "1",
		"123456789012345678901234567890123456789012345678901234567890",
	} {
		got, e := natural.Parse(s)
		checkError(t, e, api.OK, got, "Parse", s)
		check(t, got, toBig(digits(t, s)), "Parse", s)
	}
}

func TestParseErrors(t *testing.T) {
	many := strings.Repeat("1", api.MaxDigits)
	for _, c := range []struct {
		s string
		e api.Errno
	}{
		{"", api.ErrSyntax}, {" ", api.ErrSyntax}, {"-1", api.ErrSyntax}, {"+1", api.ErrSyntax},
		{" 1", api.ErrSyntax}, {"1 ", api.ErrSyntax}, {"1\n", api.ErrSyntax}, {"1_0", api.ErrSyntax},
		{"12a", api.ErrSyntax}, {"0x1", api.ErrSyntax}, {"1.5", api.ErrSyntax}, {"1/2", api.ErrSyntax},
		{"/", api.ErrSyntax}, {":", api.ErrSyntax}, {"1\x00", api.ErrSyntax}, {"\xff", api.ErrSyntax},
		{"\u0661", api.ErrSyntax}, {"\uff11", api.ErrSyntax}, // digits of other scripts
		{many + "x", api.ErrSyntax}, {many + "11x", api.ErrSyntax}, {"x" + many + "1", api.ErrSyntax},
		{many + "1", api.ErrLimit}, {"0" + many, api.ErrLimit}, {strings.Repeat("0", api.MaxDigits+1), api.ErrLimit},
		{strings.Repeat("5", 10000), api.ErrLimit},
	} {
		got, e := natural.Parse(c.s)
		checkError(t, e, c.e, got, "Parse", c.s)
	}
}

func TestFormat(t *testing.T) {
	for _, c := range []struct {
		a    []uint32
		want string
	}{
		{nil, "0"}, {[]uint32{0, 0}, "0"}, {[]uint32{10, 0}, "10"},
		{[]uint32{999999999}, "999999999"}, {[]uint32{1000000000}, "1000000000"},
		{[]uint32{0, 1}, "4294967296"}, {[]uint32{0, 0, 1}, "18446744073709551616"},
	} {
		if got := natural.Format(c.a); got != c.want {
			t.Errorf("Format(%v) is %s, not %s", c.a, got, c.want)
		}
	}
	for _, a := range append(numbers(), slices.Repeat(limbs, 300)) {
		if got, want := natural.Format(a), toBig(a).String(); got != want {
			t.Fatalf("Format(%v) is %s, not %s", a, got, want)
		}
	}
	// Zeros at the end of a number and of its groups of digits.
	for n := range 200 {
		s := "1" + strings.Repeat("0", n)
		if got := natural.Format(digits(t, s)); got != s {
			t.Errorf("Format of 10^%d is %s", n, got)
		}
	}
}

// P1.5

// must returns the result of a call that has no error.
func must(t *testing.T, a []uint32, e api.Errno) []uint32 {
	t.Helper()
	if e != api.OK {
		t.Fatalf("error %d", e)
	}
	return a
}

func same(t *testing.T, law string, got, want []uint32) {
	t.Helper()
	if !slices.Equal(got, want) {
		t.Fatalf("%s: %v is not %v", law, got, want)
	}
}

func TestLaws(t *testing.T) {
	r := rand.New(rand.NewPCG(13, 14))
	for range 3000 {
		a, b, c := random(r, 7), random(r, 7), random(r, 7)
		sum, product := natural.Add(a, b), natural.Mul(a, b)
		same(t, "a + b = b + a", sum, natural.Add(b, a))
		same(t, "a b = b a", product, natural.Mul(b, a))
		same(t, "(a + b) + c = a + (b + c)", natural.Add(sum, c), natural.Add(a, natural.Add(b, c)))
		same(t, "(a b) c = a (b c)", natural.Mul(product, c), natural.Mul(a, natural.Mul(b, c)))
		same(t, "(a + b) c = a c + b c", natural.Mul(sum, c), natural.Add(natural.Mul(a, c), natural.Mul(b, c)))
		difference, e := natural.Sub(sum, b)
		same(t, "(a + b) - b = a", must(t, difference, e), natural.Trim(a))
		if natural.Cmp(b, nil) == 0 {
			continue
		}
		q, rest, e := natural.DivMod(product, b)
		same(t, "a b / b = a", must(t, q, e), natural.Trim(a))
		same(t, "a b mod b = 0", rest, nil)
		q, rest, e = natural.DivMod(a, b)
		same(t, "q b + r = a", natural.Add(natural.Mul(must(t, q, e), b), rest), natural.Trim(a))
		if natural.Cmp(rest, b) >= 0 {
			t.Fatalf("the remainder of %v by %v is %v", a, b, rest)
		}
	}
}

func TestLawsOfGCD(t *testing.T) {
	r := rand.New(rand.NewPCG(15, 16))
	divides := func(d, n []uint32) bool {
		_, rest, e := natural.DivMod(n, d)
		return e == api.OK && len(rest) == 0
	}
	for range 3000 {
		a, b, common := random(r, 6), random(r, 6), random(r, 4)
		a, b = natural.Mul(a, common), natural.Mul(b, common)
		if natural.Cmp(a, nil) == 0 && natural.Cmp(b, nil) == 0 {
			continue
		}
		d := natural.GCD(a, b)
		if !divides(d, a) || !divides(d, b) || !divides(common, d) {
			t.Fatalf("GCD(%v, %v) is %v", a, b, d)
		}
	}
}

func TestParseOfFormat(t *testing.T) {
	limit := new(big.Int).Exp(big.NewInt(10), big.NewInt(api.MaxDigits), nil)
	for _, a := range append(numbers(), digits(t, strings.Repeat("9", api.MaxDigits)), digits(t, "1"+strings.Repeat("0", api.MaxDigits))) {
		got, e := natural.Parse(natural.Format(a))
		if toBig(a).Cmp(limit) >= 0 {
			checkError(t, e, api.ErrLimit, got, "Parse(Format)", a)
			continue
		}
		same(t, "Parse(Format(a)) = a", must(t, got, e), natural.Trim(a))
	}
}

// R3 and R5

// results calls all functions that return numbers.
func results(a, b []uint32) [][]uint32 {
	difference, _ := natural.Sub(a, b)
	q, r, _ := natural.DivMod(a, b)
	power, _ := natural.Pow(a, 1)
	one, _ := natural.Pow(a, 0)
	return [][]uint32{natural.Trim(a), natural.Add(a, b), difference, natural.Mul(a, b), q, r, natural.GCD(a, b), natural.GCD(b, a), power, one}
}

// TestMemory overwrites every result, and the memory behind it, and sees whether an argument or another result changes.
func TestMemory(t *testing.T) {
	all := [][]uint32{nil, {0}, {1}, {1, 0}, {6, 4}, {9, 0, 0}, {1, 2, 3}, {1<<32 - 1, 7, 1 << 31}, {4, 4, 4, 4, 4, 4, 0}}
	for _, a := range all {
		for _, b := range all {
			wideA, wideB := append(slices.Clone(a), 77, 78), append(slices.Clone(b), 79, 80)
			keepA, keepB := slices.Clone(wideA), slices.Clone(wideB)
			got, want := results(wideA[:len(a)], wideB[:len(b)]), results(a, b)
			for i := range got {
				if !slices.Equal(got[i], want[i]) {
					t.Fatalf("the result %d of %v, %v is %v, not %v", i, a, b, got[i], want[i])
				}
				for j := range got[i][:cap(got[i])] {
					got[i][:cap(got[i])][j] = 123456
				}
			}
			if !slices.Equal(wideA, keepA) || !slices.Equal(wideB, keepB) {
				t.Fatalf("an argument changed: %v, %v", keepA, keepB)
			}
		}
	}
}

// An argument may be passed twice, and natural.Format changes nothing either.
func TestSameArgument(t *testing.T) {
	for _, a := range numbers() {
		keep := slices.Clone(a)
		x := toBig(a)
		check(t, natural.Add(a, a), new(big.Int).Add(x, x), "Add", a)
		check(t, natural.Mul(a, a), new(big.Int).Mul(x, x), "Mul", a)
		difference, _ := natural.Sub(a, a)
		check(t, difference, new(big.Int), "Sub", a)
		checkDivMod(t, a, a)
		checkGCD(t, a, a)
		natural.Format(a)
		natural.Int(a)
		if !slices.Equal(a, keep) {
			t.Fatalf("the argument %v became %v", keep, a)
		}
	}
}
