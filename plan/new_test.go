package plan_test

import (
	"fmt"
	"math"
	"slices"
	"strings"
	"testing"

	"riddle/api"
	"riddle/plan"
	"riddle/policy"
	"riddle/types"
)

// full is a policy that may be, with something in each field, and as many classes as may be.
func full(t testing.TB) api.Policy {
	t.Helper()
	p := policyOf(t, "pass ip or ip6 or lcp", "active not lcp", "demand outbound and ip", "rest 7", "idle 30", "most 3600", "hold 5")
	for n := range api.MaxClasses {
		p.Classes = append(p.Classes, api.Class{Name: fmt.Sprintf("c%d", n), Depth: n + 1, Tree: treeOf(t, fmt.Sprintf("port %d", 50+n))})
	}
	return p
}

// turned is that policy with something turned.
func turned(t testing.TB, turn func(p *api.Policy)) api.Policy {
	t.Helper()
	p := full(t)
	turn(&p)
	return p
}

func mayNot(t testing.TB, what any, p api.Policy) {
	t.Helper()
	if policy.Check(p) == api.OK {
		t.Fatalf("%v: this policy may be", what)
	}
	if n, e := plan.New(p); n != nil || e != api.ErrPlanPolicy {
		t.Errorf("P23.1: %v: a plan: %v, %d; want none, %d", what, n != nil, e, api.ErrPlanPolicy)
	}
}

func nots(count int) []api.Node {
	return append(list(word(api.OfIP)), slices.Repeat(list(kind(api.NodeNot)), count)...)
}

// Each thing by which a policy may not be is one by which it has no plan.
func TestPoliciesThatMayNotBe(t *testing.T) {
	mayNot(t, "nothing at all", api.Policy{})
	for _, n := range []int{0, -1, 1025, math.MinInt, math.MaxInt, 1<<32 + 1} {
		mayNot(t, []any{"rest", n}, turned(t, func(p *api.Policy) { p.Rest = n }))
		mayNot(t, []any{"depth of the first", n}, turned(t, func(p *api.Policy) { p.Classes[0].Depth = n }))
		mayNot(t, []any{"depth of the last", n}, turned(t, func(p *api.Policy) { p.Classes[15].Depth = n }))
	}
	for _, n := range []int{-1, 65, math.MinInt, math.MaxInt, 1 << 32} {
		mayNot(t, []any{"hold", n}, turned(t, func(p *api.Policy) { p.Hold = n }))
	}
	for _, name := range []string{"", "0", "A", "a-b", "a b", "é", "abcdefghijklmnopq", "c0"} {
		mayNot(t, []any{"name", name}, turned(t, func(p *api.Policy) { p.Classes[1].Name = name }))
	}
	mayNot(t, "the last name twice", turned(t, func(p *api.Policy) { p.Classes[15].Name = p.Classes[14].Name }))
	mayNot(t, "17 classes", turned(t, func(p *api.Policy) {
		p.Classes = append(p.Classes, api.Class{Name: "one", Depth: 1, Tree: treeOf(t, "ip")})
	}))
	mayNot(t, "a thousand classes", turned(t, func(p *api.Policy) { p.Classes = make([]api.Class, 1000) }))
	places := []func(p *api.Policy) *[]api.Node{
		func(p *api.Policy) *[]api.Node { return &p.Pass }, func(p *api.Policy) *[]api.Node { return &p.Active }, func(p *api.Policy) *[]api.Node { return &p.Demand },
		func(p *api.Policy) *[]api.Node { return &p.Classes[0].Tree }, func(p *api.Policy) *[]api.Node { return &p.Classes[15].Tree },
	}
	wrong := [][]api.Node{
		list(kind(0)), list(kind(-1)), list(kind(17)), list(number(1)), list(kind(api.NodeLen)), list(kind(api.NodeAnd)), list(word(api.OfIP), word(api.OfIP)), list(word(api.OfPPP)), nots(api.MaxNest + 1), nots(1 << 16),
		treeOf(t, "ip + 1 = 2"), treeOf(t, "1 / 0 = 1"), treeOf(t, "port 70000"), treeOf(t, "net 10.0.0.1/8"), treeOf(t, strings.Repeat("ip or ", 250)+"ip"),
	}
	for at, place := range places {
		for n, l := range wrong {
			mayNot(t, []int{at, n}, turned(t, func(p *api.Policy) { *place(p) = l }))
		}
	}
	mayNot(t, "a class without a filter", turned(t, func(p *api.Policy) { p.Classes[3].Tree = nil }))
	mayNot(t, "a class with an empty one", turned(t, func(p *api.Policy) { p.Classes[15].Tree = []api.Node{} }))
}

// The least and the greatest that may be have a plan, whatever the fields are of which the plan says nothing.
func TestPoliciesThatMayBe(t *testing.T) {
	for _, p := range []api.Policy{
		{Rest: 1}, {Rest: 1024}, {Rest: 1, Hold: 64, Idle: api.MaxCount, Most: api.MaxCount},
		{Pass: []api.Node{}, Active: []api.Node{}, Demand: []api.Node{}, Classes: []api.Class{}, Rest: 1},
		{Rest: 1, Pass: nots(api.MaxNest)}, full(t),
		{Rest: 1, Classes: []api.Class{{Name: "a123456789012345", Depth: 1024, Tree: nots(api.MaxNest)}}},
	} {
		n := of(t, p)
		var seen tally
		for _, l := range links() {
			seen.agrees(t, n, p, l, oneOf(97, l.MP, frames(l))...)
		}
	}
}

// heaviest tells a filter as heavy as may be, whose program is long.
func heaviest(t testing.TB, part string) []api.Node {
	t.Helper()
	s := part
	for types.Weight(treeOf(t, s+" or "+part)) <= api.MaxWeight {
		s += " or " + part
	}
	return treeOf(t, s)
}

// As many filters as may be, each as heavy as may be.
func TestHeaviestPolicy(t *testing.T) {
	p := api.Policy{Pass: heaviest(t, "5 = - -len"), Active: heaviest(t, "not inbound"), Demand: heaviest(t, "len - 1 != 5"), Rest: 1}
	for n := range api.MaxClasses {
		p.Classes = append(p.Classes, api.Class{Name: fmt.Sprintf("c%d", n), Depth: 1, Tree: heaviest(t, fmt.Sprintf("udp[0] > %d or 2 < - -len + %d", 300+n, 20-n))})
	}
	n := of(t, p)
	var seen tally
	for turn, l := range links() {
		seen.agrees(t, n, p, l, oneOf(61, turn, frames(l))...)
		program(t, n, 18, l)
	}
	many := 0
	for which := range 19 {
		many += len(program(t, n, which, rich()))
	}
	if many < 10000 {
		t.Errorf("these programs are short: %d instructions", many)
	}
}

// What a policy says is in its plan: it may be written over then, in all its lists.
func TestWrittenOver(t *testing.T) {
	for _, lines := range [][]string{
		{"pass ip", "active udp", "demand udp", "class a 1 port 53", "class b 1 ip"},
		{"pass not tcp", "class a 1 inbound"},
		{"active outbound", "demand port 54 and len < 100"},
	} {
		was := policyOf(t, lines...)
		p := copied(was)
		n := of(t, p)
		for _, l := range filters(p) {
			for at := range l {
				l[at] = kind(99)
			}
		}
		for at := range p.Classes {
			p.Classes[at] = api.Class{Name: "spoilt", Depth: -1}
		}
		var seen tally
		for turn, l := range links() {
			seen.agrees(t, n, was, l, oneOf(53, turn, frames(l))...)
			for which, filter := range filters(was) {
				if len(filter) > 0 {
					comesTo(t, program(t, n, which, l), filter, asked(which, l), f(), f()[2:])
				} else {
					noProgram(t, n, which, l)
				}
			}
		}
	}
}
