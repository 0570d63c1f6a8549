package plan

import (
	"slices"

	"riddle/api"
	"riddle/compile"
	"riddle/machine"
)

// use is which filter is asked, by its number, and on which link.
type use struct {
	filter int
	link   api.Link
}

// programs has none for a filter that there is none of.
type programs map[use][]api.Insn

// add compiles a filter, if there is one, for each link on which it is asked.
func (p programs) add(filter int, t []api.Node) {
	if len(t) == 0 {
		return
	}
	for _, l := range linksOf(filter) {
		// A filter of a policy that may be is one that compile takes.
		p[use{filter, l}], _ = compile.Tree(t, l)
	}
}

// allows tells whether the filter, if there is one, lets a frame be; if there is none, nothing stands against the frame.
func (p programs) allows(filter int, l api.Link, packet []byte) bool {
	program, stands := p[use{filter, l}]
	return !stands || says(program, packet)
}

// matches tells whether there is such a filter, and a frame matches it.
func (p programs) matches(filter int, l api.Link, packet []byte) bool {
	program, stands := p[use{filter, l}]
	return stands && says(program, packet)
}

// copied tells a program in memory of its own, and whether there is one.
func (p programs) copied(filter int, l api.Link) ([]api.Insn, bool) {
	program, stands := p[use{filter, l}]
	return slices.Clone(program), stands
}

// says tells what a filter's program says of a packet. What compile gives is safe to run: to have it checked for each packet anew, as vm would, may take far longer than the run.
func says(program []api.Insn, packet []byte) bool {
	return machine.Through(program, packet).Finish().Value != 0
}

func plain() api.Link {
	return api.Link{}
}

// linksOf tells the links on which a filter is asked: whether to dial is asked before anything is negotiated.
func linksOf(filter int) []api.Link {
	if filter == filterDemand {
		return []api.Link{plain()}
	}
	var all []api.Link
	for _, acfc := range []bool{false, true} {
		for _, pfc := range []bool{false, true} {
			for mp := api.MultiOff; mp <= api.MultiLong; mp++ {
				all = append(all, api.Link{ACFC: acfc, PFC: pfc, MP: mp})
			}
		}
	}
	return all
}
