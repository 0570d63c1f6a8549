package policy

import (
	"strings"

	"riddle/api"
	"riddle/parse"
	"riddle/types"
)

// restUnsaid is the depth of the queue behind all classes where no line says it.
const restUnsaid = 16

// reader holds what the lines that were read so far say, and which lines these were.
type reader struct {
	rows   []row
	stood  map[string]struct{}
	policy api.Policy
}

// Parse tells the policy that a text says; or which line is wrong, at which place, and why.
func Parse(s string) (api.Policy, int, int, api.Errno) {
	if len(s) > api.MaxSource {
		return api.Policy{}, 0, 0, api.ErrPolicyLong
	}
	r := reader{rows: rows(), stood: map[string]struct{}{}, policy: api.Policy{Rest: restUnsaid}}
	for number := 1; s != ""; number++ {
		if number > api.MaxLines {
			return api.Policy{}, number, 0, api.ErrPolicyMany
		}
		var line string
		line, s, _ = strings.Cut(s, "\n")
		text, _, _ := strings.Cut(line, "#")
		if place, e := r.read(text); e != api.OK {
			return api.Policy{}, number, place, e
		}
	}
	return r.policy, 0, 0, api.OK
}

// read lets the policy say what a line's text, which is without the remark, says; or tells at which place it is wrong, and why.
func (r *reader) read(text string) (int, api.Errno) {
	c := cursor{text: text}
	head := c.word()
	if head == "" {
		return 0, api.OK
	}
	kind, known := r.rowOf(head)
	if !known {
		return 0, api.ErrPolicyLine
	}
	said, ok := kind.take(&c)
	if !ok {
		return 0, api.ErrPolicyLine
	}
	if e := r.admit(kind, said); e != api.OK {
		return 0, e
	}
	if kind.filtered {
		tree, place, e := filterOf(c.rest())
		if e != api.OK {
			return c.at + place, e
		}
		said.tree = tree
	}
	kind.say(&r.policy, said)
	return 0, api.OK
}

func (r *reader) rowOf(head string) (row, bool) {
	for _, kind := range r.rows {
		if kind.head == head {
			return kind, true
		}
	}
	return row{}, false
}

// admit tells whether such a line may stand behind those ahead of it; they are told apart by their first word and, of classes, the name.
func (r *reader) admit(kind row, said saying) api.Errno {
	key := spaced(kind.head, said.name)
	if _, twice := r.stood[key]; twice {
		return api.ErrPolicyTwice
	}
	if kind.head == headClass && len(r.policy.Classes) == api.MaxClasses {
		return api.ErrPolicyMany
	}
	r.stood[key] = struct{}{}
	return api.OK
}

// filterOf tells the filter that a source is; or at which place of the source something is wrong, and what.
func filterOf(source string) ([]api.Node, int, api.Errno) {
	tree, places, place, e := parse.Parse(source)
	if e != api.OK {
		return nil, place, e
	}
	if node, e := types.Check(tree); e != api.OK {
		return nil, places[node], e
	}
	return tree, 0, api.OK
}
