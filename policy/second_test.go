package policy_test

import (
	"fmt"
	"regexp"
	"strconv"
	"strings"

	"riddle/api"
	"riddle/parse"
	"riddle/show"
	"riddle/types"
)

// answer is what Parse answers.
type answer struct {
	p           api.Policy
	line, place int
	e           api.Errno
}

// The forms of lines, without their remarks; a filter is all behind the words ahead of it, the blanks between them too.
var (
	noWords   = regexp.MustCompile(`^[ \t]*$`)
	filtered  = regexp.MustCompile(`(?s)^([ \t]*(pass|active|demand))($|[ \t].*$)`)
	classed   = regexp.MustCompile(`(?s)^([ \t]*class[ \t]+([a-z][a-z0-9]{0,15})[ \t]+([1-9][0-9]{0,3}))($|[ \t].*$)`)
	withDepth = regexp.MustCompile(`^[ \t]*(rest)[ \t]+([1-9][0-9]{0,3})[ \t]*$`)
	withHold  = regexp.MustCompile(`^[ \t]*(hold)[ \t]+(0|[1-9][0-9]?)[ \t]*$`)
	withTime  = regexp.MustCompile(`^[ \t]*(idle|most)[ \t]+(0|[1-9][0-9]{0,9})[ \t]*$`)
)

// parsed is a second reader, made from the chapter's table by other means: lines are held to their forms.
func parsed(s string) answer {
	if len(s) > 65536 {
		return answer{e: api.ErrPolicyLong}
	}
	all := strings.Split(s, "\n")
	if all[len(all)-1] == "" {
		all = all[:len(all)-1]
	}
	out := answer{p: api.Policy{Rest: 16}}
	said := map[string]bool{}
	for i, line := range all {
		place, e := 0, api.ErrPolicyMany
		if i < 256 {
			place, e = out.add(strings.SplitN(line, "#", 2)[0], said)
		}
		if e != api.OK {
			return answer{line: i + 1, place: place, e: e}
		}
	}
	return out
}

// add lets a line's text say something.
func (out *answer) add(text string, said map[string]bool) (int, api.Errno) {
	if noWords.MatchString(text) {
		return 0, api.OK
	}
	if m := filtered.FindStringSubmatch(text); m != nil {
		if said[m[2]] {
			return 0, api.ErrPolicyTwice
		}
		said[m[2]] = true
		tree, place, e := behindBlanks(m[1], m[3])
		*map[string]*[]api.Node{"pass": &out.p.Pass, "active": &out.p.Active, "demand": &out.p.Demand}[m[2]] = tree
		return place, e
	}
	if m := classed.FindStringSubmatch(text); m != nil && within(m[3], 1024) {
		return out.addClass(m, said)
	}
	for _, form := range []*regexp.Regexp{withDepth, withHold, withTime} {
		m := form.FindStringSubmatch(text)
		most := map[*regexp.Regexp]uint64{withDepth: 1024, withHold: 64, withTime: 1<<32 - 1}[form]
		if m == nil || !within(m[2], most) {
			continue
		}
		if said[m[1]] {
			return 0, api.ErrPolicyTwice
		}
		said[m[1]] = true
		n, _ := strconv.Atoi(m[2])
		switch m[1] {
		case "rest":
			out.p.Rest = n
		case "hold":
			out.p.Hold = n
		case "idle":
			out.p.Idle = uint32(n)
		case "most":
			out.p.Most = uint32(n)
		}
		return 0, api.OK
	}
	return 0, api.ErrPolicyLine
}

func (out *answer) addClass(m []string, said map[string]bool) (int, api.Errno) {
	for _, c := range out.p.Classes {
		if c.Name == m[2] {
			return 0, api.ErrPolicyTwice
		}
	}
	if len(out.p.Classes) == 16 {
		return 0, api.ErrPolicyMany
	}
	tree, place, e := behindBlanks(m[1], m[4])
	depth, _ := strconv.Atoi(m[3])
	out.p.Classes = append(out.p.Classes, api.Class{Name: m[2], Depth: depth, Tree: tree})
	return place, e
}

func within(digits string, most uint64) bool {
	n, err := strconv.ParseUint(digits, 10, 64)
	return err == nil && n <= most
}

// behindBlanks reads a filter in its line: with blanks in the place of all that stands ahead of it, a source's places are the line's.
func behindBlanks(ahead, source string) ([]api.Node, int, api.Errno) {
	tree, places, place, e := parse.Parse(strings.Repeat(" ", len(ahead)) + source)
	if e != api.OK {
		return nil, place, e
	}
	if node, e := types.Check(tree); e != api.OK {
		return nil, places[node], e
	}
	return tree, 0, api.OK
}

// written is a second writer.
func written(p api.Policy) string {
	source := func(l []api.Node) string {
		s, e := show.Show(l)
		if e != api.OK {
			panic(e)
		}
		return s
	}
	s := ""
	if len(p.Pass) > 0 {
		s += fmt.Sprintf("pass %s\n", source(p.Pass))
	}
	if len(p.Active) > 0 {
		s += fmt.Sprintf("active %s\n", source(p.Active))
	}
	if len(p.Demand) > 0 {
		s += fmt.Sprintf("demand %s\n", source(p.Demand))
	}
	for _, c := range p.Classes {
		s += fmt.Sprintf("class %s %d %s\n", c.Name, c.Depth, source(c.Tree))
	}
	s += fmt.Sprintf("rest %d\n", p.Rest)
	if p.Idle > 0 {
		s += fmt.Sprintf("idle %d\n", p.Idle)
	}
	if p.Most > 0 {
		s += fmt.Sprintf("most %d\n", p.Most)
	}
	if p.Hold > 0 {
		s += fmt.Sprintf("hold %d\n", p.Hold)
	}
	return s
}
