package policy

import (
	"strconv"
	"strings"

	"riddle/api"
)

// The first words of lines.
const (
	headPass   = "pass"
	headActive = "active"
	headDemand = "demand"
	headClass  = "class"
	headRest   = "rest"
	headIdle   = "idle"
	headMost   = "most"
	headHold   = "hold"
)

// saying is what the words of a line say, and its filter.
type saying struct {
	name   string
	number uint32
	tree   []api.Node
}

// taker takes a word, and tells whether it may stand where it does. None takes an empty one.
type taker func(l *saying, word string) bool

// row is what lines with one first word hold, and what they say.
type row struct {
	head     string
	words    []taker // of what must stand behind the first word
	filtered bool    // whether a filter stands behind that, or nothing
	say      func(p *api.Policy, l saying)
}

func rows() []row {
	return []row{
		{headPass, nil, true, func(p *api.Policy, l saying) { p.Pass = l.tree }},
		{headActive, nil, true, func(p *api.Policy, l saying) { p.Active = l.tree }},
		{headDemand, nil, true, func(p *api.Policy, l saying) { p.Demand = l.tree }},
		{headClass, []taker{(*saying).takeName, (*saying).takeDepth}, true, addClass},
		{headRest, []taker{(*saying).takeDepth}, false, func(p *api.Policy, l saying) { p.Rest = int(l.number) }},
		{headIdle, []taker{(*saying).takeNumber}, false, func(p *api.Policy, l saying) { p.Idle = l.number }},
		{headMost, []taker{(*saying).takeNumber}, false, func(p *api.Policy, l saying) { p.Most = l.number }},
		{headHold, []taker{(*saying).takeHold}, false, func(p *api.Policy, l saying) { p.Hold = int(l.number) }},
	}
}

// addClass keeps a copy of the name: what stands in the line is a piece of the whole text.
func addClass(p *api.Policy, l saying) {
	p.Classes = append(p.Classes, api.Class{Name: strings.Clone(l.name), Depth: int(l.number), Tree: l.tree})
}

// take reads the words behind the first one, as far as no filter begins, and tells whether they may stand there.
func (r row) take(c *cursor) (saying, bool) {
	var said saying
	for _, takes := range r.words {
		if !takes(&said, c.word()) {
			return saying{}, false
		}
	}
	return said, r.filtered || c.word() == ""
}

func (l *saying) takeName(word string) bool {
	l.name = word
	return isName(word)
}

func (l *saying) takeNumber(word string) bool {
	n, err := strconv.ParseUint(word, 10, 32)
	l.number = uint32(n)
	// A number has one text, which has no needless noughts.
	return err == nil && decimal(l.number) == word
}

func (l *saying) takeDepth(word string) bool {
	return l.takeNumber(word) && isDepth(int(l.number))
}

func (l *saying) takeHold(word string) bool {
	return l.takeNumber(word) && isHold(int(l.number))
}

// cursor is how far a line's text has been read.
type cursor struct {
	text string
	at   int
}

// word goes behind the next word, and tells it; an empty one, if there is none.
func (c *cursor) word() string {
	for c.at < len(c.text) && isBlank(c.text[c.at]) {
		c.at++
	}
	start := c.at
	for c.at < len(c.text) && !isBlank(c.text[c.at]) {
		c.at++
	}
	return c.text[start:c.at]
}

func (c *cursor) rest() string {
	return c.text[c.at:]
}

func isBlank(b byte) bool {
	return b == ' ' || b == '\t'
}
