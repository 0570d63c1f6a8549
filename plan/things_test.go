package plan_test

import (
	"encoding/hex"
	"fmt"
	"math"
	"slices"
	"strings"
	"testing"

	"riddle/api"
	"riddle/parse"
	"riddle/plan"
	"riddle/policy"
)

func kind(k int) api.Node           { return api.Node{Kind: k} }
func number(n uint32) api.Node      { return api.Node{Kind: api.NodeNumber, N: n} }
func word(of int) api.Node          { return api.Node{Kind: api.NodeWord, Of: of} }
func list(l ...api.Node) []api.Node { return l }

func joined(parts ...[]byte) []byte { return slices.Concat(parts...) }

func ways() []int     { return []int{api.WayIn, api.WayOut} }
func noWays() []int   { return []int{-1, 2, 3, 255, 256, 1 << 32, 1<<32 + 1, math.MinInt, math.MaxInt} }
func plain() api.Link { return api.Link{} }
func rich() api.Link  { return api.Link{ACFC: true, PFC: true, MP: api.MultiLong} }

// links tells all links that may be.
func links() []api.Link {
	var out []api.Link
	for n := range 12 {
		out = append(out, api.Link{ACFC: n&1 != 0, PFC: n&2 != 0, MP: n >> 2})
	}
	return out
}

// noLinks tells links that may not be.
func noLinks() []api.Link {
	var out []api.Link
	for _, mp := range []int{-1, 3, 4, 9, 255, 256, 257, 1 << 16, 1 << 32, 1<<32 + 1, math.MinInt, math.MaxInt} {
		out = append(out, api.Link{MP: mp}, api.Link{ACFC: true, MP: mp}, api.Link{PFC: true, MP: mp}, api.Link{ACFC: true, PFC: true, MP: mp})
	}
	return out
}

// fromHex tells the bytes of digits, blanks between them left aside.
func fromHex(s string) []byte {
	b, err := hex.DecodeString(strings.ReplaceAll(s, " ", ""))
	if err != nil {
		panic(err)
	}
	return b
}

// f is the frame of the examples in the chapters: udp from 1.2.3.4, port 53, to 5.6.7.8, port 54.
func f() []byte {
	return fromHex("ff 03 00 21 45 00 00 18 00 00 00 00 40 11 00 00 01 02 03 04 05 06 07 08 00 35 00 36")
}

// treeOf tells the tree of a source.
func treeOf(t testing.TB, s string) []api.Node {
	t.Helper()
	l, _, place, e := parse.Parse(s)
	if e != api.OK {
		t.Fatalf("%.200q: %d, %d", s, place, e)
	}
	return l
}

// policyOf tells the policy that lines say.
func policyOf(t testing.TB, lines ...string) api.Policy {
	t.Helper()
	p, line, place, e := policy.Parse(strings.Join(lines, "\n"))
	if e != api.OK {
		t.Fatalf("%.200q: %d, %d, %d", lines, line, place, e)
	}
	return p
}

// of tells the plan of a policy that may be.
func of(t testing.TB, p api.Policy) *plan.Plan {
	t.Helper()
	n, e := plan.New(p)
	if e != api.OK || n == nil {
		t.Fatalf("P23.1: %s: %d", told(p), e)
	}
	return n
}

// said tells the plan of the policy that lines say.
func said(t testing.TB, lines ...string) *plan.Plan {
	t.Helper()
	return of(t, policyOf(t, lines...))
}

// copied is a policy in memory of its own.
func copied(p api.Policy) api.Policy {
	p.Pass, p.Active, p.Demand = slices.Clone(p.Pass), slices.Clone(p.Active), slices.Clone(p.Demand)
	p.Classes = slices.Clone(p.Classes)
	for i := range p.Classes {
		p.Classes[i].Tree = slices.Clone(p.Classes[i].Tree)
	}
	return p
}

// same tells whether two policies say the same.
func same(p, q api.Policy) bool {
	return slices.Equal(p.Pass, q.Pass) && slices.Equal(p.Active, q.Active) && slices.Equal(p.Demand, q.Demand) &&
		slices.EqualFunc(p.Classes, q.Classes, func(c, d api.Class) bool {
			return c.Name == d.Name && c.Depth == d.Depth && slices.Equal(c.Tree, d.Tree)
		}) && p.Rest == q.Rest && p.Idle == q.Idle && p.Most == q.Most && p.Hold == q.Hold
}

// told tells a policy in few words: by its text, if it has one.
func told(p api.Policy) string {
	if s, e := policy.Print(p); e == api.OK {
		return strings.ReplaceAll(s[:min(len(s), 300)], "\n", "; ")
	}
	return fmt.Sprintf("pass %d, active %d, demand %d nodes, %d classes, rest %d, hold %d", len(p.Pass), len(p.Active), len(p.Demand), len(p.Classes), p.Rest, p.Hold)
}

// filters tells the filters of a policy by their numbers.
func filters(p api.Policy) [][]api.Node {
	out := [][]api.Node{p.Pass, p.Active, p.Demand}
	for _, c := range p.Classes {
		out = append(out, c.Tree)
	}
	return out
}

// reply is what a plan says of a frame on a link, one way.
type reply struct {
	pass, active, demand bool
	class                int
}

// ask asks a plan all that may be asked of a frame.
func ask(t testing.TB, n *plan.Plan, l api.Link, way int, b []byte) reply {
	t.Helper()
	pass, ofPass := n.Pass(l, way, b)
	active, ofActive := n.Active(l, way, b)
	demand, ofDemand := n.Demand(b)
	class, ofClass := n.Class(l, b)
	if ofPass != api.OK || ofActive != api.OK || ofDemand != api.OK || ofClass != api.OK {
		t.Fatalf("P23.2: %+v, way %d: %d, %d, %d, %d", l, way, ofPass, ofActive, ofDemand, ofClass)
	}
	return reply{pass, active, demand, class}
}

// says holds a plan to a reply.
func says(t testing.TB, n *plan.Plan, l api.Link, way int, b []byte, want reply) {
	t.Helper()
	if got := ask(t, n, l, way, b); got != want {
		t.Errorf("P23.3: %+v, way %d, %d bytes %.120x: %+v; want %+v", l, way, len(b), b, got, want)
	}
}
