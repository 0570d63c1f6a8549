package policy_test

import (
	"fmt"
	"math/rand"
	"strings"
	"testing"

	"riddle/api"
	"riddle/policy"
)

// maker makes texts and policies by chance.
type maker struct{ *rand.Rand }

func newMaker(seed int64) maker { return maker{rand.New(rand.NewSource(seed))} }

func (m maker) one(some ...string) string { return some[m.Intn(len(some))] }

// number makes a source that is a number.
func (m maker) number(depth int) string {
	if depth == 0 || m.Intn(3) == 0 {
		return m.one("len", "0", "7", "0xff", "4294967295", "ip[0]", "tcp[2:2]", "ppp[len - 1]", "ip6[ip[0]:4]")
	}
	return m.one("", "-") + "(" + m.number(depth-1) + m.one(" + ", "-", " * ", "&", " | ", " ^ ", "<<", ">>") + m.number(depth-1) + ")"
}

// filter makes a source that is a filter, in one line.
func (m maker) filter(depth int) string {
	if depth == 0 || m.Intn(4) == 0 {
		return m.one("ip", "udp", "mp", "inbound", "outbound", "proto 33", "ip6 proto 58", "host 1.2.3.4", "src host fe80::1", "dst net 10.0.0.0/8", "net ::/0", "port 53", "tcp src portrange 1-9", "udp portrange 5-5", "not lcp", "! chap")
	}
	switch m.Intn(4) {
	case 0:
		return m.one("not ", "!", "not\t") + "(" + m.filter(depth-1) + ")"
	case 1:
		return m.number(depth-1) + m.one(" = ", "==", " != ", "<", "<=", " > ", ">=") + m.number(depth-1)
	}
	return "(" + m.filter(depth-1) + ")" + m.one(" and ", "&&", " or ", "||", "\tor\r") + "(" + m.filter(depth-1) + ")"
}

func (m maker) blanks() string { return m.one(" ", " ", " ", "\t", "  ", " \t ") }

func (m maker) perhaps(s string) string { return m.one("", "", "", s) }

func (m maker) name() string {
	return m.one("a", "b", "c1", "voice", "x9", "bulk", "abcdefghijklmnop", "pass", "ip", "z", string(rune('d'+m.Intn(20))))
}

// line makes a line that is right by itself.
func (m maker) line() string {
	var s string
	switch m.Intn(9) {
	case 0:
		s = m.one("", "#", "# so", "\t#\t")
	case 1, 2:
		s = m.one("pass", "active", "demand") + m.blanks() + m.filter(m.Intn(4))
	case 3, 4, 5:
		s = "class" + m.blanks() + m.name() + m.blanks() + fmt.Sprint(1+m.Intn(1024)) + m.blanks() + m.filter(m.Intn(3))
	case 6:
		s = "rest" + m.blanks() + fmt.Sprint(1+m.Intn(1024))
	case 7:
		s = m.one("idle", "most") + m.blanks() + m.one("0", "1", "30", "4294967295", fmt.Sprint(m.Uint32()))
	case 8:
		s = "hold" + m.blanks() + fmt.Sprint(m.Intn(65))
	}
	return m.perhaps(m.blanks()) + s + m.perhaps(m.blanks()) + m.perhaps("#"+m.one("", " so", "rest 5", "\t("))
}

// broken makes a line that may well be wrong.
func (m maker) broken() string {
	words := []string{"pass", "active", "demand", "class", "rest", "idle", "most", "hold", "fly", "a", "A", "0", "5", "05", "1024", "1025", "4294967296", "ip", "len", "(", "and", ";", "#", "\r", "port", "70000", "not"}
	s := m.perhaps(m.blanks())
	for range 1 + m.Intn(5) {
		s += m.one(words...) + m.one(" ", " ", "\t", "", "  ")
	}
	return s
}

// text makes lines, of which some may be broken.
func (m maker) text(breaks bool) string {
	var all []string
	for range m.Intn(9) {
		if breaks && m.Intn(12) == 0 {
			all = append(all, m.broken())
		} else {
			all = append(all, m.line())
		}
	}
	return strings.Join(all, "\n") + m.one("", "\n", "\n\n")
}

// spoilt puts, takes or turns a byte or two of a text.
func (m maker) spoilt(s string) string {
	for range 1 + m.Intn(2) {
		at := m.Intn(len(s) + 1)
		put := m.one(" ", "\t", "\n", "#", "\r", "0", "1", "9", "a", "(", ")", ";", ":", "A", "\x00", "\xff", "p", "class ", "rest ")
		end := at
		if m.Intn(2) == 0 {
			end = min(at+1, len(s))
		}
		s = s[:at] + m.one(put, put, "") + s[end:]
	}
	return s
}

// agrees holds Parse to the second reader, and tells its error; what is a policy is then printed and read again.
func agrees(t testing.TB, s string) api.Errno {
	t.Helper()
	want := parsed(s)
	p, line, place, e := policy.Parse(s)
	if !same(p, want.p) || line != want.line || place != want.place || e != want.e {
		t.Errorf("P20.2: %.300q: %s, line %d, place %d, %d; want %s, line %d, place %d, %d", s, told(p), line, place, e, told(want.p), want.line, want.place, want.e)
	}
	if e == api.OK {
		printed(t, p, written(p))
		may(t, "what is read", p)
	}
	return e
}

// Texts by chance, right ones, broken ones and spoilt ones, against the second reader.
func TestByChance(t *testing.T) {
	m := newMaker(41)
	seen := map[api.Errno]int{}
	for range 40000 {
		s := m.text(m.Intn(2) == 0)
		seen[agrees(t, s)]++
		seen[agrees(t, m.spoilt(s))]++
	}
	for _, e := range []api.Errno{api.OK, api.ErrPolicyLine, api.ErrPolicyTwice, api.ErrParseEnd, api.ErrParseToken, api.ErrLexByte, api.ErrLexNumber, api.ErrTypeBool, api.ErrTypeNumber} {
		if seen[e] < 20 {
			t.Errorf("only %d texts that come to %d", seen[e], e)
		}
	}
}

// Each row of up to four words of a choice is a line.
func TestFewWords(t *testing.T) {
	words := []string{"pass", "class", "rest", "hold", "a", "0", "1", "65", "ip", "#", "(", "len"}
	var row func(s string, left int)
	row = func(s string, left int) {
		agrees(t, s)
		agrees(t, "class a 9 ip\nrest 9\npass ip\n"+s)
		if left > 0 {
			for _, word := range words {
				row(s+" "+word, left-1)
			}
		}
	}
	row("", 4)
}

// Each text of a few bytes that tell lines, words and remarks apart.
func TestFewBytes(t *testing.T) {
	var grow func(s string, left int)
	grow = func(s string, left int) {
		agrees(t, s)
		agrees(t, "hold 1"+s+"most 2")
		agrees(t, "pass "+s+"ip")
		if left > 0 {
			for _, more := range []string{" ", "\t", "\n", "\r", "#", "1", "rest"} {
				grow(s+more, left-1)
			}
		}
	}
	grow("", 5)
}

// policyOf makes a policy by chance.
func (m maker) policyOf(t testing.TB) api.Policy {
	t.Helper()
	tree := func() []api.Node {
		if m.Intn(3) == 0 {
			return nil
		}
		return treeOf(t, m.filter(m.Intn(5)))
	}
	p := api.Policy{Pass: tree(), Active: tree(), Demand: tree(), Rest: 1 + m.Intn(1024), Idle: m.Uint32() >> m.Intn(33), Most: m.Uint32() >> m.Intn(33), Hold: m.Intn(65)}
	taken := map[string]bool{}
	for range m.Intn(18) {
		name := m.name()
		if !taken[name] {
			taken[name] = true
			p.Classes = append(p.Classes, api.Class{Name: name, Depth: 1 + m.Intn(1024), Tree: treeOf(t, m.filter(m.Intn(4)))})
		}
	}
	p.Classes = p.Classes[:min(len(p.Classes), 16)]
	return p
}

// Policies by chance are printed, as the second writer tells them, and read again.
func TestPoliciesByChance(t *testing.T) {
	m := newMaker(42)
	for range 5000 {
		p := m.policyOf(t)
		may(t, told(p), p)
		printed(t, p, written(p))
		agrees(t, written(p))
	}
}

// A text that was read stays what it is, if its lines are mixed, as long as classes keep their order.
func TestMixed(t *testing.T) {
	m := newMaker(43)
	for range 3000 {
		p := m.policyOf(t)
		var classes, others []string
		for line := range strings.Lines(written(p)) {
			if strings.HasPrefix(line, "class ") {
				classes = append(classes, line)
			} else {
				others = append(others, line)
			}
		}
		m.Shuffle(len(others), func(i, j int) { others[i], others[j] = others[j], others[i] })
		s := ""
		for len(classes)+len(others) > 0 {
			from := &others
			if len(others) == 0 || len(classes) > 0 && m.Intn(2) == 0 {
				from = &classes
			}
			s += m.perhaps("\n") + m.perhaps(" # so\n") + m.perhaps(m.blanks()) + (*from)[0]
			*from = (*from)[1:]
		}
		sayJust(t, p, s)
	}
}
