package tape_test

import (
	"fmt"
	"math/big"
	"slices"
	"testing"

	"exactppl/api"
	"exactppl/core"
	"exactppl/tape"
	"exactppl/trace"
)

// P17.1 to P17.3 by their definitions. The outcomes are found with math/big, and the runs by trace.Run.

func toInt(a []uint32) *big.Int {
	n := new(big.Int)
	for _, limb := range slices.Backward(a) {
		n.Lsh(n, 32).Or(n, new(big.Int).SetUint64(uint64(limb)))
	}
	return n
}

// toBig returns the number that a denotes.
func toBig(a api.Rat) *big.Rat {
	num, den := toInt(a.Num), toInt(a.Den)
	if den.Sign() == 0 {
		return new(big.Rat)
	}
	if a.Neg {
		num.Neg(num)
	}
	return new(big.Rat).SetFrac(num, den)
}

// valueOf returns the number that a weight without parameters denotes: its value where all variables are 0.
func valueOf(p api.Poly) *big.Rat {
	x := new(big.Rat)
	for _, t := range p {
		if t.Mono == (api.Mono{}) {
			x.Add(x, toBig(t.Coef))
		}
	}
	return x
}

// outcomeOf returns the least index for which the sum of the weights up to this index is greater than number / base.
func outcomeOf(weights []api.Poly, base, number int) int {
	sum, point := new(big.Rat), big.NewRat(int64(number), int64(base))
	for i, w := range weights {
		if sum.Add(sum, valueOf(w)).Cmp(point) > 0 {
			return i
		}
	}
	panic("the weights add up to less than 1")
}

// every reports whether something holds for all commands of l and in them.
func every(l []api.Cmd, holds func(api.Cmd) bool) bool {
	for _, c := range l {
		if !holds(c) || !every(c.Then, holds) || !every(c.Else, holds) {
			return false
		}
	}
	return true
}

// weightsOf returns the weights of each draw of l.
func weightsOf(l []api.Cmd) [][]api.Poly {
	var weights [][]api.Poly
	every(l, func(c api.Cmd) bool {
		if c.Kind == api.CmdDraw {
			weights = append(weights, c.Dist.Weights)
		}
		return true
	})
	return weights
}

func hasRat(f api.Form) bool { return f.Op == api.FoRat || slices.ContainsFunc(f.Args, hasRat) }

// errorOf returns the error that all functions have.
func errorOf(m api.Module, base int) api.Errno {
	if e := core.Validate(m); e != api.OK {
		return e
	}
	isEnumerable := core.Straight(m) && !slices.Contains(m.Cells, real) && every(m.Body, func(c api.Cmd) bool {
		return !hasRat(c.Form) && !slices.ContainsFunc(c.Args, hasRat) && (c.Kind != api.CmdDraw || c.Dist.Kind == api.DistTable)
	})
	switch {
	case !isEnumerable || m.Params != 0:
		return api.ErrClass
	case base <= 0 || base > 1<<20:
		return api.ErrRange
	}
	return api.OK
}

// sampled returns what Sample returns for arguments without the error that all functions have.
func sampled(m api.Module, base int, numbers []int) (api.Trace, int, api.Errno) {
	weights := weightsOf(m.Body)
	outcomes := make([]int, api.MaxSites) // every draw has the outcome 0
	for taken := 0; ; taken++ {
		u, n, _ := trace.Run(m, outcomes)
		switch {
		case taken == n:
			return u, n, api.OK
		case taken == len(numbers):
			return api.Trace{}, 0, api.ErrTape
		case numbers[taken] < 0 || numbers[taken] >= base:
			return api.Trace{}, 0, api.ErrRange
		}
		outcomes[taken] = outcomeOf(weights[u.Choices[taken].Site], base, numbers[taken])
	}
}

// counted returns how many of the tapes of n numbers with a beginning lead to each result, to rejected runs, and to runs that are cut; and the first error.
func counted(m api.Module, base, n int, beginning []int) (map[string]int, api.Errno) {
	if len(beginning) < n {
		whole := map[string]int{}
		for number := range base {
			part, e := counted(m, base, n, append(slices.Clone(beginning), number))
			if e != api.OK {
				return nil, e
			}
			for key, tapes := range part {
				whole[key] += tapes
			}
		}
		return whole, api.OK
	}
	u, _, e := sampled(m, base, beginning)
	if e != api.OK {
		return nil, e
	}
	key := map[int]string{api.EndRejected: "rejected", api.EndCut: "cut"}[u.End]
	if u.End == api.EndAccepted {
		key = fmt.Sprint(each(m.Outs, func(i int) int { return u.State[i] }))
	}
	return map[string]int{key: 1}, api.OK
}

// tapesOf returns how many tapes there are, up to a limit.
func tapesOf(base, n int) int {
	number := new(big.Int).Exp(big.NewInt(int64(base)), big.NewInt(int64(n)), nil)
	if !number.IsInt64() || number.Int64() > 1<<40 {
		return 1 << 40
	}
	return int(number.Int64())
}

// checkSample checks Sample, and returns its error.
func checkSample(t *testing.T, m api.Module, base int, numbers []int) api.Errno {
	t.Helper()
	var want api.Trace
	n, f := 0, errorOf(m, base)
	if f == api.OK {
		want, n, f = sampled(m, base, numbers)
	}
	got, taken, e := tape.Sample(m, base, numbers)
	if e != f || taken != n || !same(got, want) {
		t.Errorf("Sample(%+v, %d, %v) is %+v, %d, %d, not %+v, %d, %d", m, base, numbers, got, taken, e, want, n, f)
	}
	return e
}

// checkCount checks Count, and returns its error. It compares the measures if there are few tapes.
func checkCount(t *testing.T, m api.Module, base, n int) api.Errno {
	t.Helper()
	x, e := tape.Count(m, base, n)
	want := errorOf(m, base)
	if want == api.OK && (n < 0 || n > 64) {
		want = api.ErrRange
	}
	if want == api.OK && tapesOf(base, n) > 20000 {
		want = api.ErrLimit
	}
	var numbers map[string]int
	if want == api.OK && tapesOf(base, n) <= 1000 {
		numbers, want = counted(m, base, n, nil)
	} else if want == api.OK {
		want = e
	}
	if e != want || e != api.OK && !same(x, api.Measure{}) {
		t.Errorf("Count(%+v, %d, %d) is %s with the error %d, not %d", m, base, n, masses(x), e, want)
	}
	if numbers != nil && e == api.OK {
		checkMasses(t, m, x, numbers, tapesOf(base, n))
	}
	return e
}

// checkMasses checks that a measure is in normal form and has these numbers of tapes.
func checkMasses(t *testing.T, m api.Module, x api.Measure, numbers map[string]int, tapes int) {
	t.Helper()
	got := map[string]api.Poly{"rejected": x.Rejected, "cut": x.Cut}
	for i, r := range x.Rows {
		got[fmt.Sprint(r.Key)] = r.Mass
		if i > 0 && slices.Compare(x.Rows[i-1].Key, r.Key) >= 0 || len(r.Mass) == 0 {
			t.Errorf("the rows of %s for %+v are wrong", masses(x), m)
		}
	}
	for key, mass := range got {
		var want api.Poly
		if numbers[key] > 0 {
			want = constant(fmt.Sprintf("%d/%d", numbers[key], tapes))
		}
		if !same(mass, want) {
			t.Errorf("the mass of %s in %s for %+v is %+v, not that of %d of %d tapes", key, masses(x), m, mass, numbers[key], tapes)
		}
		delete(numbers, key)
	}
	if len(numbers) > 0 {
		t.Errorf("%s for %+v has no rows for %v", masses(x), m, numbers)
	}
}

// checkFits checks Fits, and returns its error.
func checkFits(t *testing.T, m api.Module, base int) api.Errno {
	t.Helper()
	f := errorOf(m, base)
	want := f == api.OK
	for _, weights := range weightsOf(m.Body) {
		for _, w := range weights {
			denominator := valueOf(w).Denom()
			want = want && new(big.Int).Rem(big.NewInt(int64(base)), denominator).Sign() == 0
		}
	}
	if got, e := tape.Fits(m, base); got != want || e != f {
		t.Errorf("Fits(%+v, %d) is %v, %d, not %v, %d", m, base, got, e, want, f)
	}
	return f
}
