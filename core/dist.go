package core

import (
	"slices"

	"exactppl/api"
	"exactppl/polynomial"
	"exactppl/rational"
)

// suits reports whether a cell of a kind can be drawn from a distribution of a kind.
func suits(dist, cell int) bool {
	switch dist {
	case api.DistTable, api.DistNested:
		return cell != api.TypeReal
	case api.DistGeometric:
		return cell == api.TypeNat
	}
	return cell == api.TypeReal
}

// isDist reports whether d is well-formed.
func (s scope) isDist(d api.Dist) bool {
	if hasUnusedInDist(d) {
		return false
	}
	switch d.Kind {
	case api.DistTable:
		return s.isTable(d)
	case api.DistGeometric:
		return rational.Sign(d.From) >= 0 && rational.Cmp(d.From, rational.Int(1)) < 0
	case api.DistInterval:
		return rational.Cmp(d.From, d.To) < 0
	case api.DistBeta:
		return min(d.Low, d.High) >= 1 && max(d.Low, d.High) <= api.MaxBeta
	case api.DistNested:
		return isIndex(d.Low, s.nested)
	}
	return false
}

// hasUnusedInDist reports whether d has a field that is not zero and that its kind does not use.
func hasUnusedInDist(d api.Dist) bool {
	switch d.Kind {
	case api.DistBeta:
		d.High = 0
		fallthrough
	case api.DistNested:
		d.Low = 0
	case api.DistTable:
		d.Low, d.Weights = 0, nil
	case api.DistInterval:
		d.To = api.Rat{}
		fallthrough
	case api.DistGeometric:
		d.From = api.Rat{}
	}
	d.Kind = 0
	return !isZeroDist(d)
}

func (s scope) isTable(d api.Dist) bool {
	n := len(d.Weights)
	if n < 1 || n > api.MaxOutcomes || d.Low < -api.MaxInt || d.Low > api.MaxInt-(n-1) {
		return false
	}
	var sum api.Poly // a list of terms that is not in normal form
	for _, w := range d.Weights {
		p, e := polynomial.Norm(w)
		if e != api.OK || !s.isWeight(p) {
			return false
		}
		sum = append(sum, p...)
	}
	return polynomial.Equal(sum, polynomial.Const(rational.Int(1)))
}

// isWeight examines a weight in normal form.
func (s scope) isWeight(p api.Poly) bool {
	for _, t := range p {
		if slices.Max(t.Mono[:]) > api.MaxWeight || slices.Max(t.Mono[s.params:]) > 0 {
			return false
		}
	}
	isNegative := len(p) > 0 && p[0].Mono == api.Mono{} && p[0].Coef.Neg
	return !isNegative
}
