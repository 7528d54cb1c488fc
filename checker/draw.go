package checker

import (
	"slices"

	"exactppl/api"
	"exactppl/polynomial"
	"exactppl/rational"
)

// draw examines a draw of a variable of the type t.
func (c *checker) draw(t api.Type, d api.Draw) {
	is := func(kinds ...int) bool { return slices.Contains(kinds, t.Kind) }
	switch d.Kind {
	case api.DrawFlip:
		probs := c.probabilities(d.Probs...)
		requireType(is(api.TypeBool))
		c.use(probs)
	case api.DrawUniform:
		requireRange(areOutcomes(d.Low, d.High))
		requireType(is(api.TypeInt, api.TypeNat))
	case api.DrawTable:
		probs := c.table(d)
		requireType(is(api.TypeInt, api.TypeNat))
		c.use(probs)
	case api.DrawBinomial:
		probs := c.binomial(d)
		requireType(is(api.TypeInt, api.TypeNat))
		c.use(probs)
	case api.DrawGeometric:
		requireRange(rational.Sign(d.From) >= 0 && rational.Cmp(d.From, rational.Int(1)) < 0)
		requireType(is(api.TypeNat))
	case api.DrawInterval:
		requireRange(rational.Cmp(d.From, d.To) < 0)
		requireType(is(api.TypeReal))
	case api.DrawBeta:
		requireRange(min(d.Low, d.High) >= 1 && max(d.Low, d.High) <= api.MaxBeta)
		requireType(is(api.TypeReal))
	case api.DrawNested:
		c.nested(t, d.Name)
	}
}

// areOutcomes reports whether the numbers from low to high, at least one, can be the outcomes of a draw.
func areOutcomes(low, high int) bool {
	return -api.MaxInt <= low && low <= high && high <= api.MaxInt && high-low < api.MaxOutcomes
}

// table returns the probabilities of a table.
func (c *checker) table(d api.Draw) []api.Poly {
	requireRange(areOutcomes(d.Low, d.Low+len(d.Probs)-1))
	probs := c.probabilities(d.Probs...)
	var sum api.Poly
	for _, p := range probs {
		sum, _ = polynomial.Add(sum, p)
	}
	requireRange(polynomial.Equal(sum, polynomial.Const(rational.Int(1))))
	return probs
}

// binomial returns the probability of a success.
func (c *checker) binomial(d api.Draw) []api.Poly {
	requireRange(d.High < api.MaxOutcomes)
	probs := c.probabilities(d.Probs...)
	for v := range api.MaxParams {
		require(d.High*exponentOf(probs[0], v) <= api.MaxWeight, api.ErrLimit)
	}
	return probs
}

// exponentOf returns the greatest exponent of the parameter v in p, or less than 1 if there is none.
func exponentOf(p api.Poly, v int) int {
	n, _ := polynomial.Degree(p, v)
	return n
}

// nested examines a draw of a variable of the type t from a query. A query that has no right result is found in its own block.
func (c *checker) nested(t api.Type, name string) {
	q := c.find(name, query)
	require(c.at.kind != query || q.index < c.at.index, api.ErrName)
	result, _ := resultOf(c.whole.Queries[q.index])
	switch result.Kind {
	case api.TypeBool:
		requireType(t.Kind == api.TypeBool)
	case api.TypeInt:
		requireType(t.Kind == api.TypeInt || t.Kind == api.TypeNat)
	}
}

// probabilities returns the polynomials that the expressions denote.
func (c *checker) probabilities(l ...api.Expr) []api.Poly {
	var polys []api.Poly
	for _, e := range l {
		p, code := Probability(c.whole.Params, e)
		require(code == api.OK, code)
		polys = append(polys, p)
	}
	return polys
}

// use finds the parameters that occur in the probabilities, which must be none in a query.
func (c *checker) use(probs []api.Poly) {
	for _, p := range probs {
		for v := range c.occurs {
			if exponentOf(p, v) > 0 {
				require(c.at.kind != query, api.ErrClass)
				c.occurs[v] = true
			}
		}
	}
}
