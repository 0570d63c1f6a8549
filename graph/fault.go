package graph

import (
	"slices"

	"riddle/api"
	"riddle/check"
	"riddle/insn"
)

// fault tells what is wrong with the block b, number at of n; room is what the Codes up to it leave of MaxProgram.
func fault(b api.Block, at, n, room int) api.Errno {
	switch {
	case room < 0:
		return api.ErrGraphMany
	case !straight(b.Code):
		return api.ErrGraphCode
	case !ends(b):
		return api.ErrGraphEnd
	case !leadsOn(b, at, n):
		return api.ErrGraphGoal
	}
	return api.OK
}

// straight tells whether each instruction goes on to the next one, and none has a fault: then a return behind them makes a program that check takes.
func straight(code []api.Insn) bool {
	if slices.ContainsFunc(code, leaves) {
		return false
	}
	// A Code may be as long as a program: with its return it would be too long.
	for part := range slices.Chunk(code, api.MaxProgram-1) {
		if _, e := check.Check(append(slices.Clone(part), api.Insn{Code: api.RetK})); e != api.OK {
			return false
		}
	}
	return true
}

// leaves tells whether an instruction does not go on to the next one: a jump or a return.
func leaves(i api.Insn) bool {
	class := insn.Class(i.Code)
	return class == api.ClassJmp || class == api.ClassRet
}

// ends tells whether a block's end is as its kind must be, but for where its goals lie.
func ends(b api.Block) bool {
	switch b.End {
	case api.EndReturn:
		return insn.Class(b.Last.Code) == api.ClassRet && b.Last == bare(b.Last) && b.Yes == 0 && b.No == 0
	case api.EndGo:
		return b.Last == api.Insn{} && b.No == 0
	case api.EndTest:
		return asks(b.Last) && b.Last == bare(b.Last)
	}
	return false
}

// asks tells whether an instruction is a jump with two goals.
func asks(i api.Insn) bool {
	_, two, _ := insn.Uses(i.Code)
	return two
}

// bare tells an instruction without what a block's Last does not look at: its goals are the block's.
func bare(i api.Insn) api.Insn {
	out := api.Insn{Code: i.Code}
	if looks, _, _ := insn.Uses(i.Code); looks {
		out.K = i.K
	}
	return out
}

// leadsOn tells whether the goals of a block lie behind it: so no run comes to a block twice.
func leadsOn(b api.Block, at, n int) bool {
	behind := func(goal int) bool { return at < goal && goal < n }
	switch b.End {
	case api.EndGo:
		return behind(b.Yes)
	case api.EndTest:
		return behind(b.Yes) && behind(b.No)
	}
	return true
}
