package machine

import (
	"riddle/api"
	"riddle/insn"
)

// Run is a machine on its way through a program. It relies on its callers for a program that check takes.
type Run struct {
	Machine
	program []api.Insn
	at      int
	over    bool
	verdict api.Verdict
}

// Through tells a run ahead of a program's first instruction.
func Through(p []api.Insn, packet []byte) *Run {
	return &Run{Machine: Over(packet), program: p}
}

// Next tells the place of the instruction that Step carries out, and whether there is one: not behind a return or a fault.
func (r *Run) Next() (int, bool) {
	return r.at, !r.over
}

// Step needs not look whether there is an instruction: check has seen that all goals lie within the program, and that its last one returns.
func (r *Run) Step() {
	i := r.program[r.at]
	r.at++
	r.verdict.Steps++
	switch insn.Class(i.Code) {
	case api.ClassRet:
		r.verdict.Value = r.Give(i)
		r.over = true
	case api.ClassJmp:
		r.at += r.leap(i)
	default:
		r.verdict.Fault = r.Do(i)
		r.over = r.verdict.Fault != api.FaultNone
	}
}

// leap tells how many instructions a jump leaves out.
func (r *Run) leap(i api.Insn) int {
	switch {
	case i.Code == api.Ja:
		return int(i.K)
	case r.Ask(i):
		return int(i.Jt)
	}
	return int(i.Jf)
}

// Finish goes on to the run's end, and tells what it came to.
func (r *Run) Finish() api.Verdict {
	for !r.over {
		r.Step()
	}
	return r.verdict
}
