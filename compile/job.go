package compile

import (
	"riddle/api"
	"riddle/frame"
	"riddle/line"
	"riddle/lower"
	"riddle/opt"
	"riddle/parse"
	"riddle/types"
)

// job is what has been made so far on the way to a program.
type job struct {
	link    api.Link
	source  string
	tree    []api.Node
	places  []int // of the tree's nodes in the source; none, if the tree is of no source
	graph   []api.Block
	program []api.Insn
}

// pass goes on from what the passes ahead of it made, and tells what is wrong with that.
type pass func(j *job) error

func passesOfSource() []pass {
	return []pass{(*job).admitLink, (*job).readSource, (*job).checkTree, (*job).makeGraph, (*job).improveGraph, (*job).layOut}
}

func passesOfTree() []pass {
	return []pass{(*job).admitLink, (*job).checkTree, (*job).makeGraph, (*job).improveGraph, (*job).layOut}
}

// run lets the passes go on one behind the other, till one finds something wrong.
func (j *job) run(passes []pass) error {
	for _, goOn := range passes {
		if err := goOn(j); err != nil {
			return err
		}
	}
	return nil
}

func (j *job) admitLink() error {
	if frame.Check(j.link) != api.OK {
		return refused(api.ErrCompileLink, 0)
	}
	return nil
}

func (j *job) readSource() error {
	tree, places, place, e := parse.Parse(j.source)
	j.tree, j.places = tree, places
	return refused(e, place)
}

func (j *job) checkTree() error {
	node, e := types.Check(j.tree)
	return refused(e, j.placeOf(node))
}

// placeOf tells the place of a node in the source, 0 if it has none.
func (j *job) placeOf(node int) int {
	if node < len(j.places) {
		return j.places[node]
	}
	return 0
}

// makeGraph has a filter ahead of it: neither this pass nor a later one finds anything wrong with that. It fits by its weight.
func (j *job) makeGraph() error {
	g, e := lower.Lower(j.tree, j.link)
	j.graph = g
	return refused(e, 0)
}

func (j *job) improveGraph() error {
	g, e := opt.Improve(j.graph)
	j.graph = g
	return refused(e, 0)
}

func (j *job) layOut() error {
	p, e := line.Linear(j.graph)
	j.program = p
	return refused(e, 0)
}
