package graph

import (
	"riddle/api"
	"riddle/machine"
)

// run is a machine on its way through a graph.
type run struct {
	machine.Machine
	over    bool
	verdict api.Verdict
}

// through carries a block out, and tells the number of the one at which the run goes on, if it does.
func (r *run) through(b api.Block) int {
	for _, i := range b.Code {
		r.verdict.Steps++
		r.verdict.Fault = r.Do(i)
		if r.verdict.Fault != api.FaultNone {
			r.over = true
			return entry
		}
	}
	return r.leave(b)
}

func (r *run) leave(b api.Block) int {
	if b.End == api.EndGo {
		return b.Yes
	}
	r.verdict.Steps++
	if b.End == api.EndReturn {
		r.verdict.Value = r.Give(b.Last)
		r.over = true
		return entry
	}
	if r.Ask(b.Last) {
		return b.Yes
	}
	return b.No
}
