package policy_test

import (
	"fmt"
	"slices"
	"strings"
	"testing"

	"riddle/api"
	"riddle/parse"
	"riddle/policy"
)

func kind(k int) api.Node           { return api.Node{Kind: k} }
func number(n uint32) api.Node      { return api.Node{Kind: api.NodeNumber, N: n} }
func word(of int) api.Node          { return api.Node{Kind: api.NodeWord, Of: of} }
func list(l ...api.Node) []api.Node { return l }

// class is a class whose tree the source is.
func class(t testing.TB, name string, depth int, source string) api.Class {
	t.Helper()
	return api.Class{Name: name, Depth: depth, Tree: treeOf(t, source)}
}

// treeOf tells the tree of a source.
func treeOf(t testing.TB, s string) []api.Node {
	t.Helper()
	l, _, place, e := parse.Parse(s)
	if e != api.OK {
		t.Fatalf("%.200q: %d, %d", s, place, e)
	}
	return l
}

// lines puts lines together, a byte 10 behind each.
func lines(l ...string) string {
	return strings.Join(l, "\n") + "\n"
}

// same tells whether two policies say the same, where nil and empty lists are one.
func same(p, q api.Policy) bool {
	return slices.Equal(p.Pass, q.Pass) && slices.Equal(p.Active, q.Active) && slices.Equal(p.Demand, q.Demand) &&
		slices.EqualFunc(p.Classes, q.Classes, sameClass) &&
		p.Rest == q.Rest && p.Idle == q.Idle && p.Most == q.Most && p.Hold == q.Hold
}

func sameClass(c, d api.Class) bool {
	return c.Name == d.Name && c.Depth == d.Depth && slices.Equal(c.Tree, d.Tree)
}

// copied is a policy in memory of its own.
func copied(p api.Policy) api.Policy {
	p.Pass, p.Active, p.Demand = slices.Clone(p.Pass), slices.Clone(p.Active), slices.Clone(p.Demand)
	p.Classes = slices.Clone(p.Classes)
	for i := range p.Classes {
		p.Classes[i].Tree = slices.Clone(p.Classes[i].Tree)
	}
	return p
}

// told tells a policy in few words.
func told(p api.Policy) string {
	out := fmt.Sprintf("pass %d, active %d, demand %d nodes, rest %d, idle %d, most %d, hold %d", len(p.Pass), len(p.Active), len(p.Demand), p.Rest, p.Idle, p.Most, p.Hold)
	for _, c := range p.Classes {
		out += fmt.Sprintf(", class %q %d %d nodes", c.Name, c.Depth, len(c.Tree))
	}
	return out
}

// says tells the policy of a text that says one.
func says(t testing.TB, s string) api.Policy {
	t.Helper()
	p, line, place, e := policy.Parse(s)
	if line != 0 || place != 0 || e != api.OK {
		t.Fatalf("P20.2: %.200q: %d, %d, %d", s, line, place, e)
	}
	return p
}

// sayJust holds texts to what they say.
func sayJust(t testing.TB, want api.Policy, texts ...string) {
	t.Helper()
	for _, s := range texts {
		if p := says(t, s); !same(p, want) {
			t.Errorf("P20.2: %.200q says %s; want %s", s, told(p), told(want))
		}
	}
}

// refuses holds Parse to an error, its line and its place; the policy beside it is nothing.
func refuses(t testing.TB, s string, line, place int, want api.Errno) {
	t.Helper()
	p, n, at, e := policy.Parse(s)
	if n != line || at != place || e != want {
		t.Errorf("P20.2: %.200q: line %d, place %d, %d; want line %d, place %d, %d", s, n, at, e, line, place, want)
	}
	if !same(p, api.Policy{}) {
		t.Errorf("R2: %.200q: beside the error %s", s, told(p))
	}
}

// prints tells the text of a policy that has one.
func prints(t testing.TB, p api.Policy) string {
	t.Helper()
	s, e := policy.Print(p)
	if e != api.OK {
		t.Fatalf("P20.3: %s: %d", told(p), e)
	}
	return s
}

// mayNot holds Check and Print to an error.
func mayNot(t testing.TB, what any, p api.Policy, want api.Errno) {
	t.Helper()
	if e := policy.Check(p); e != want {
		t.Errorf("P20.1: %v: %d; want %d", what, e, want)
	}
	if s, e := policy.Print(p); s != "" || e != want {
		t.Errorf("P20.3: %v: %.80q, %d; want %d", what, s, e, want)
	}
}

// may holds Check to OK, Print to a text, and Parse to the policy.
func may(t testing.TB, what any, p api.Policy) {
	t.Helper()
	if e := policy.Check(p); e != api.OK {
		t.Errorf("P20.1: %v: %d", what, e)
	}
	s, e := policy.Print(p)
	if e != api.OK {
		t.Errorf("P20.3: %v: %d", what, e)
		return
	}
	if q := says(t, s); !same(p, q) {
		t.Errorf("P20.4: %v: %.200q says %s; want %s", what, s, told(q), told(p))
	}
}

// manyClasses tells lines of so many classes, each with a name of its own.
func manyClasses(count int) []string {
	var out []string
	for i := range count {
		out = append(out, fmt.Sprintf("class c%d %d ip", i, i+1))
	}
	return out
}
