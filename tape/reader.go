package tape

import (
	"slices"
	"sort"

	"exactppl/api"
	"exactppl/execution"
	"exactppl/rational"
)

// scale tells what the numbers from 0 to base - 1 mean for the draws: ends has for each site and each of its weights how many numbers belong to this weight or to one before it.
type scale struct {
	base int
	ends [][]int
}

// scaleOf returns the scale of a program without parameters.
func scaleOf(p execution.Program, base int) scale {
	s := scale{base, make([][]int, len(p.Dists))}
	for site, d := range p.Dists {
		sum := rational.Int(0)
		for _, w := range d.Weights {
			sum = rational.Add(sum, value(w))
			end := rational.Mul(sum, rational.Int(base))
			s.ends[site] = append(s.ends[site], sort.Search(base, func(number int) bool {
				return rational.Cmp(rational.Int(number), end) >= 0
			}))
		}
	}
	return s
}

// value returns the number that a constant polynomial in normal form denotes.
func value(p api.Poly) api.Rat {
	if len(p) == 0 {
		return rational.Int(0)
	}
	return p[0].Coef
}

// outcome returns the outcome that a number from 0 to base - 1 means for the draw of a site.
func (s scale) outcome(site, number int) int {
	return slices.IndexFunc(s.ends[site], func(end int) bool { return number < end })
}

// agreement returns how many of the choices, from the first one on, are those to which a tape leads.
func (s scale) agreement(choices []api.Choice, t numbers) int {
	for i, c := range choices {
		if s.outcome(c.Site, t[i]) != c.Outcome {
			return i
		}
	}
	return len(choices)
}

// reader reads a tape: left is what it has not read yet.
type reader struct {
	scale
	left []int
}

// read takes the next number and returns what it means for the draw of a site. It returns ErrTape if there is none, and ErrRange if it is not from 0 to base - 1.
func (r *reader) read(site int) (int, api.Errno) {
	if len(r.left) == 0 {
		return 0, api.ErrTape
	}
	number := r.left[0]
	if number < 0 || number >= r.base {
		return 0, api.ErrRange
	}
	r.left = r.left[1:]
	return r.outcome(site, number), api.OK
}

// follow executes a run to its end, with the outcomes that a function returns for the sites, or up to the first error.
func follow(run *execution.Run, outcome func(site int) (int, api.Errno)) api.Errno {
	for run.Draw != nil {
		i, e := outcome(run.Draw.Site)
		if e != api.OK {
			return e
		}
		run.Choose(i)
	}
	return api.OK
}
