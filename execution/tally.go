package execution

import (
	"exactppl/api"
	"exactppl/measure"
)

// Tally adds up the masses of traces that have the same result, which are the values of the variables Outs.
type Tally struct {
	Outs   []int
	traces api.Measure // each key is the number of a trace and its result, so that they are in ascending order
	added  int
}

// Add adds a trace.
func (t *Tally) Add(x api.Trace) {
	switch x.End {
	case api.EndAccepted:
		key := []int{t.added}
		for _, out := range t.Outs {
			key = append(key, x.State[out])
		}
		t.traces.Rows = append(t.traces.Rows, api.Row{Key: key, Mass: x.Mass})
	case api.EndRejected:
		t.traces.Rejected = append(t.traces.Rejected, x.Mass...)
	case api.EndCut:
		t.traces.Cut = append(t.traces.Cut, x.Mass...)
	}
	t.added++
}

// Measure returns the measure of the traces that were added, in new memory.
func (t *Tally) Measure() (api.Measure, api.Errno) {
	var results []int
	for i := range t.Outs {
		results = append(results, i+1) // without the number of the trace
	}
	return measure.Marginal(t.traces, results)
}
