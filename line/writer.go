package line

import (
	"slices"

	"riddle/api"
)

// program is the instructions that stand so far.
type program []api.Insn

// lay puts instructions behind those that stand.
func (p *program) lay(code ...api.Insn) {
	*p = append(*p, code...)
}

// end tells the place at which the next instruction will stand.
func (p *program) end() int {
	return len(*p)
}

// writer lays blocks out one behind the other.
type writer struct {
	program
	places map[int]int // of the blocks that stand, by their numbers: where they begin
	jumps  []jump      // whose goals are filled in when all blocks stand
}

// jump is one of the program: its place, and the numbers of the blocks to which it leads. To some of them it leads by the Ja right behind it.
type jump struct {
	at, yes, no int
	detours     []int
}

// block lays a block, and behind its end a Ja to each goal of its detours.
func (w *writer) block(number int, b api.Block, detours []int) {
	w.places[number] = w.end()
	w.lay(b.Code...)
	switch b.End {
	case api.EndReturn:
		w.lay(b.Last)
	case api.EndTest:
		w.leave(b.Last, jump{at: w.end(), yes: b.Yes, no: b.No, detours: detours})
	}
	for _, goal := range detours {
		w.leave(api.Insn{Code: api.Ja}, jump{at: w.end(), yes: goal, no: goal})
	}
}

// leave lays a jump whose goals are left open.
func (w *writer) leave(i api.Insn, j jump) {
	w.lay(i)
	w.jumps = append(w.jumps, j)
}

// fill puts the goals into the jumps.
func (w *writer) fill() {
	for _, j := range w.jumps {
		yes, no := w.leap(j, j.yes), w.leap(j, j.no)
		i := &w.program[j.at]
		if i.Code == api.Ja {
			i.K = uint32(yes)
		} else {
			i.Jt, i.Jf = uint8(yes), uint8(no)
		}
	}
}

// leap tells how many instructions a jump leaves out on its way to a goal.
func (w *writer) leap(j jump, goal int) int {
	if by := slices.Index(j.detours, goal); by >= 0 {
		return by
	}
	return w.places[goal] - j.at - 1
}
