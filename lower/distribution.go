package lower

import (
	"slices"

	"exactppl/api"
	"exactppl/checker"
	"exactppl/polynomial"
)

// dist returns the distribution of a draw.
func (w *writer) dist(d api.Draw) api.Dist {
	switch d.Kind {
	case api.DrawFlip:
		return flip(w.probability(d.Probs[0]))
	case api.DrawUniform:
		n := d.High - d.Low + 1
		return table(d.Low, slices.Repeat([]api.Poly{polynomial.Const(ratio(1, n))}, n))
	case api.DrawTable:
		return table(d.Low, each(d.Probs, w.probability))
	case api.DrawBinomial:
		return table(0, binomial(d.High, w.probability(d.Probs[0])))
	case api.DrawGeometric:
		return api.Dist{Kind: api.DistGeometric, From: d.From}
	case api.DrawInterval:
		return api.Dist{Kind: api.DistInterval, From: d.From, To: d.To}
	case api.DrawBeta:
		return api.Dist{Kind: api.DistBeta, Low: d.Low, High: d.High}
	}
	return api.Dist{Kind: api.DistNested, Low: find(w.whole.Queries, d.Name)}
}

// probability returns the polynomial that e denotes.
func (b *block) probability(e api.Expr) api.Poly {
	p, _ := checker.Probability(b.whole.Params, e)
	return p
}

func table(low int, weights []api.Poly) api.Dist {
	return api.Dist{Kind: api.DistTable, Low: low, Weights: weights}
}

// flip returns the distribution of a truth value with the probability q of true.
func flip(q api.Poly) api.Dist { return table(0, binomial(1, q)) }

// ratio returns the fraction of two small numbers that are not negative.
func ratio(num, den int) api.Rat {
	return api.Rat{Num: []uint32{uint32(num)}, Den: []uint32{uint32(den)}}
}

// binomial returns the probabilities of 0 to n successes in n trials with the probability q. They are sums of powers of q, because products of powers of q and of 1 - q take much longer.
func binomial(n int, q api.Poly) []api.Poly {
	weights := make([]api.Poly, n+1)
	power := polynomial.Const(ratio(1, 1))
	for i := range weights {
		if i > 0 {
			power, _ = polynomial.Mul(power, q)
		}
		for k := range i + 1 {
			c := ratio(choose(n, i)*choose(i, k), 1)
			c.Neg = (i-k)%2 == 1
			part, _ := polynomial.Scale(power, c)
			weights[k], _ = polynomial.Add(weights[k], part)
		}
	}
	return weights
}

// choose returns n over k.
func choose(n, k int) int {
	c := 1
	for i := range k {
		c = c * (n - i) / (i + 1)
	}
	return c
}
