package tape_test

import (
	"fmt"
	"slices"
	"testing"
	"time"

	"exactppl/api"
	"exactppl/measure"
	"exactppl/rational"
	"exactppl/tape"
	"exactppl/trace"
)

// There are at most MaxTraces tapes.
func TestNumberOfTapes(t *testing.T) {
	m := module(t, []api.Cell{truth}, fair(0, 2))
	for _, c := range []struct{ base, most int }{{2, 14}, {3, 9}, {4, 7}, {5, 6}, {6, 5}, {7, 5}, {8, 4}, {11, 4}, {12, 3}, {27, 3}, {28, 2}, {141, 2}, {142, 1}, {20000, 1}, {20001, 0}, {1048576, 0}} {
		for n := range 66 {
			want := api.OK
			switch {
			case n > 64:
				want = api.ErrRange
			case n > c.most:
				want = api.ErrLimit
			case n == 0:
				want = api.ErrTape
			}
			x, e := tape.Count(m, c.base, n)
			if e != want || e != api.OK && !same(x, api.Measure{}) {
				t.Errorf("Count with the base %d and tapes of %d numbers is %s with the error %d, not %d", c.base, n, masses(x), e, want)
			}
			ones := c.base / 2
			if f := fmt.Sprintf("[0] %s, [1] %s, rejected 0, cut 0", part(c.base-ones, c.base), part(ones, c.base)); e == api.OK && masses(x) != f {
				t.Errorf("Count with the base %d and tapes of %d numbers is %s, not %s", c.base, n, masses(x), f)
			}
		}
	}
	for n := range 65 {
		wantCount(t, m, 1, n, map[bool]string{true: "error 13", false: "[0] 1, rejected 0, cut 0"}[n == 0])
	}
}

// part writes a fraction in lowest terms.
func part(num, den int) string { return rational.Format(fraction(fmt.Sprintf("%d/%d", num, den))) }

// All 64 draws take numbers.
func TestMostDraws(t *testing.T) {
	var l []api.Cmd
	for i := range api.MaxSites {
		l = append(l, draw(i, table(0, slices.Repeat([]string{"1/16"}, 16)...)))
	}
	cells := slices.Repeat([]api.Cell{wide}, api.MaxSites)
	m := module(t, cells, l...)
	var numbers []int
	for i := range api.MaxSites {
		numbers = append(numbers, i*16384+16383*(i%2))
	}
	checkSample(t, m, 1<<20, numbers)
	u, n, e := tape.Sample(m, 1<<20, numbers)
	want := each(numbers, func(number int) int { return number >> 16 })
	if e != api.OK || n != 64 || !slices.Equal(u.State, want) {
		t.Errorf("Sample of %v is %s, the error is %d", numbers, text(u), e)
	}
	wantSample(t, m, 1<<20, numbers[:63], "error 13")
	numbers[63] = 1 << 20
	wantSample(t, m, 1<<20, numbers, "error 1")
	wantCount(t, m, 1, 64, "[0] 1, rejected 0, cut 0")
	wantCount(t, m, 1, 63, "error 13")
	for n := range 15 {
		wantCount(t, m, 2, n, "error 13")
	}
}

// sized returns a form of the size n with a depth of at most 31.
func sized(n int) api.Form {
	switch {
	case n == 1:
		return variable(0)
	case n%2 == 0:
		return not(sized(n - 1))
	}
	return node(api.FoAdd, sized(1+(n-3)/2), sized(n-2-(n-3)/2))
}

// Large modules, large fractions and many tapes take no long time.
func TestTime(t *testing.T) {
	cells := slices.Repeat([]api.Cell{truth}, api.MaxCells)
	var flips []api.Cmd
	for i := range 14 {
		flips = append(flips, flip(i, "1/2"))
	}
	sets := slices.Repeat([]api.Cmd{set(399, node(api.FoOr, variable(3), variable(5)))}, api.MaxCommands-14)
	var large []api.Cmd
	for i := range 9 {
		large = append(large, set(399-i, sized(api.MaxForm)))
	}
	bases := []int{2, 3, 27, 141, 20000, 1}
	lengths := []int{14, 9, 3, 2, 1, 64}
	for what, m := range map[string]api.Module{
		"flips":                module(t, cells, flips...),
		"commands behind":      module(t, cells, append(slices.Clone(flips), sets...)...),
		"commands before":      module(t, cells, append(slices.Clone(sets), flips...)...),
		"commands behind one":  module(t, cells, append(slices.Clone(flips[:1]), sets...)...),
		"forms behind one":     module(t, cells, append(slices.Clone(flips[:1]), large...)...),
		"forms behind six":     module(t, cells, append(slices.Clone(flips[:6]), large...)...),
		"one before forms":     module(t, cells, append(slices.Clone(large), flips[:1]...)...),
		"results of all draws": results(t, cells, flips),
	} {
		start := time.Now()
		want, e := trace.Measure(m)
		if e != api.OK {
			t.Fatalf("%s: the error of Measure is %d", what, e)
		}
		for i, base := range bases {
			x, e := tape.Count(m, base, lengths[i])
			if isFull := base%2 == 0 && e == api.OK; isFull != measure.Equal(x, want) || e != api.OK && e != api.ErrTape {
				t.Errorf("%s: Count for the base %d is %s, the error is %d", what, base, masses(x), e)
			}
			if _, n, e := tape.Sample(m, base, make([]int, 64)); e != api.OK || n != number(m.Body, 0) {
				t.Errorf("%s: Sample for the base %d takes %d, the error is %d", what, base, n, e)
			}
		}
		if d := time.Since(start); d > 20*time.Second {
			t.Errorf("%s: it takes %v", what, d)
		}
	}
}

// results has the values of 14 draws as its result.
func results(t *testing.T, cells []api.Cell, flips []api.Cmd) api.Module {
	m := module(t, cells, flips...)
	m.Type = api.Type{Kind: api.TypeTuple}
	for _, n := range []int{4, 4, 4, 2} {
		m.Type.Elems = append(m.Type.Elems, api.Type{Kind: api.TypeTuple, Elems: slices.Repeat([]api.Type{typeOf(truth)}, n)})
	}
	m.Outs = nil
	for i := range 14 {
		m.Outs = append(m.Outs, i)
	}
	return m
}

// Weights with many limbs.
func TestLargeFractions(t *testing.T) {
	start := time.Now()
	limbs := func(n int, last uint32) []uint32 {
		l := slices.Repeat([]uint32{0x9e3779b9}, n)
		l[n-1] = last
		return l
	}
	var l []api.Cmd
	for i := range api.MaxSites {
		w := api.Rat{Num: limbs(100, uint32(1+i)), Den: limbs(101, uint32(3+i))}
		d := api.Dist{Kind: api.DistTable, Weights: []api.Poly{{{Coef: w}}, {{Coef: rational.Sub(rational.Int(1), w)}}}}
		l = append(l, draw(0, d))
	}
	m := module(t, []api.Cell{truth}, l[:14]...)
	// The first weights are greater than 0 and less than 1/2.
	if x, e := tape.Count(m, 2, 14); e != api.OK || masses(x) != "[0] 1/2, [1] 1/2, rejected 0, cut 0" {
		t.Errorf("Count is %s, the error is %d", masses(x), e)
	}
	m = module(t, []api.Cell{truth}, l...)
	if u, n, e := tape.Sample(m, 1<<20, make([]int, 64)); e != api.OK || n != 64 || len(u.Mass) != 1 {
		t.Errorf("Sample takes %d, the error is %d", n, e)
	}
	if does, e := tape.Fits(m, 1<<20); does || e != api.OK {
		t.Errorf("Fits is %v, the error is %d", does, e)
	}
	if d := time.Since(start); d > 20*time.Second {
		t.Errorf("it takes %v", d)
	}
}
