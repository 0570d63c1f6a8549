package policy

import (
	"strconv"
	"strings"

	"riddle/api"
	"riddle/show"
)

// Print tells the text of a policy that may be.
func Print(p api.Policy) (string, api.Errno) {
	if e := Check(p); e != api.OK {
		return "", e
	}
	text := written(p)
	if len(text) > api.MaxSource {
		return "", api.ErrPolicyLong
	}
	return text, api.OK
}

func written(p api.Policy) string {
	var out writer
	out.filter(headPass, p.Pass)
	out.filter(headActive, p.Active)
	out.filter(headDemand, p.Demand)
	for _, c := range p.Classes {
		out.line(headClass, c.Name, decimal(uint32(c.Depth)), shown(c.Tree))
	}
	out.line(headRest, decimal(uint32(p.Rest)))
	out.number(headIdle, p.Idle)
	out.number(headMost, p.Most)
	out.number(headHold, uint32(p.Hold))
	return out.text.String()
}

// writer puts a text together, line by line.
type writer struct {
	text strings.Builder
}

func (w *writer) line(words ...string) {
	w.text.WriteString(spaced(words...))
	w.text.WriteByte('\n')
}

// filter leaves out the line of a filter that there is none of.
func (w *writer) filter(head string, t []api.Node) {
	if len(t) > 0 {
		w.line(head, shown(t))
	}
}

// number leaves out the line of a number that is 0 without it too.
func (w *writer) number(head string, n uint32) {
	if n != 0 {
		w.line(head, decimal(n))
	}
}

// shown tells the text of a filter that has one.
func shown(t []api.Node) string {
	text, _ := show.Show(t)
	return text
}

// spaced puts words together, divided by one blank.
func spaced(words ...string) string {
	return strings.Join(words, " ")
}

func decimal(n uint32) string {
	return strconv.FormatUint(uint64(n), 10)
}
