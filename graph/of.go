package graph

import (
	"riddle/api"
	"riddle/insn"
)

// blocks cuts a program that check takes.
func blocks(p []api.Insn) []api.Block {
	number := numbers(p)
	out := make([]api.Block, 0, number[len(p)])
	from := 0
	for at := range p {
		if number[at+1] != number[at] {
			out = append(out, block(p, from, at, number))
			from = at + 1
		}
	}
	return out
}

// numbers tells of each instruction the number of its block; behind the last one, where no block begins, the number that one would have.
func numbers(p []api.Insn) []int {
	begins := beginnings(p)
	out := make([]int, len(begins))
	for at := 1; at < len(begins); at++ {
		out[at] = out[at-1]
		if begins[at] {
			out[at]++
		}
	}
	return out
}

// beginnings tells of each instruction whether a block begins there; the place behind the last one, a return, stands for the program's end.
func beginnings(p []api.Insn) []bool {
	out := make([]bool, len(p)+1)
	for at, i := range p {
		if !leaves(i) {
			continue
		}
		out[at+1] = true
		if insn.Class(i.Code) == api.ClassJmp {
			yes, no := goals(at, i)
			out[yes], out[no] = true, true
		}
	}
	return out
}

// goals tells the places at which a run goes on behind a jump at a place.
func goals(at int, i api.Insn) (int, int) {
	next := at + 1
	if i.Code == api.Ja {
		return next + int(i.K), next + int(i.K)
	}
	return next + int(i.Jt), next + int(i.Jf)
}

// block is the one of the instructions from from to at, both with it.
func block(p []api.Insn, from, at int, number []int) api.Block {
	last := p[at]
	if !leaves(last) {
		return api.Block{Code: copied(p[from : at+1]), End: api.EndGo, Yes: number[at+1]}
	}
	b := api.Block{Code: copied(p[from:at])}
	if insn.Class(last.Code) == api.ClassRet {
		b.End, b.Last = api.EndReturn, bare(last)
		return b
	}
	yes, no := goals(at, last)
	b.Yes = number[yes]
	if last.Code == api.Ja {
		b.End = api.EndGo
		return b
	}
	b.End, b.Last, b.No = api.EndTest, bare(last), number[no]
	return b
}

// copied makes memory of its own, where slices.Clone of nothing would still point into the program.
func copied(p []api.Insn) []api.Insn {
	return append([]api.Insn(nil), p...)
}
