package measure

import (
	"exactppl/api"
	"exactppl/polynomial"
	"exactppl/ratfunc"
	"exactppl/rational"
)

// evidence returns m as a normal measure, and its accepted mass, by which the posterior is divided. It returns ErrCut if the cut mass is not zero, and ErrEvidence if the accepted mass is zero.
func evidence(m api.Measure) (api.Measure, api.Poly, api.Errno) {
	m, e := normal(m)
	if e != api.OK {
		return api.Measure{}, nil, e
	}
	accepted := joined(m.Rows)
	switch {
	case len(m.Cut) > 0:
		return api.Measure{}, nil, api.ErrCut
	case len(accepted) == 0:
		return api.Measure{}, nil, api.ErrEvidence
	}
	return m, accepted, api.OK
}

// Posterior returns the keys of m with their masses divided by the accepted mass. It returns ErrCut if the cut mass is not zero, and ErrEvidence if the accepted mass is zero.
func Posterior(m api.Measure) ([]api.Post, api.Errno) {
	m, accepted, e := evidence(m)
	if e != api.OK {
		return nil, e
	}
	out := make([]api.Post, 0, len(m.Rows))
	for _, row := range m.Rows {
		prob, e := ratfunc.Make(row.Mass, accepted)
		if e != api.OK {
			return nil, e
		}
		out = append(out, api.Post{Key: row.Key, Prob: prob})
	}
	return out, api.OK
}

// Moment returns the sum of (element cell of the key)^n times the posterior probability over all rows. It returns the errors of Posterior, and then ErrRange if cell is not the index of an element of the keys or n is not from 0 to MaxPower.
func Moment(m api.Measure, cell, n int) (api.Quot, api.Errno) {
	m, accepted, e := evidence(m)
	if e != api.OK {
		return api.Quot{}, e
	}
	for i, row := range m.Rows {
		if !has(row.Key, cell) {
			return api.Quot{}, api.ErrRange
		}
		power, e := rational.Pow(rational.Int(row.Key[cell]), n)
		if e != api.OK {
			return api.Quot{}, e
		}
		m.Rows[i].Mass, e = polynomial.Scale(row.Mass, power)
		if e != api.OK {
			return api.Quot{}, e
		}
	}
	return ratfunc.Make(joined(m.Rows), accepted)
}
