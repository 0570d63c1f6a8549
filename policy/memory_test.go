package policy_test

import (
	"slices"
	"sync"
	"testing"

	"riddle/api"
	"riddle/policy"
)

// call is a text or a policy, and what was answered first.
type call struct {
	s    string
	read answer
	p    api.Policy
	text string
	may  api.Errno
	e    api.Errno
}

func calls(t *testing.T, seed int64) []call {
	t.Helper()
	m := newMaker(seed)
	var out []call
	for range 400 {
		c := call{s: m.text(true), p: m.policyOf(t)}
		if m.Intn(4) == 0 {
			c.s = m.spoilt(c.s)
		}
		switch m.Intn(8) {
		case 0:
			c.p.Rest = 0
		case 1:
			c.p.Classes = append(c.p.Classes, make([]api.Class, 17)...)
		case 2:
			c.p.Pass = tooDeep()
		}
		out = append(out, c)
	}
	out = append(out, call{s: "rest 5", p: ofSize(t, api.MaxSource)}, call{s: prints(t, ofSize(t, api.MaxSource)), p: ofSize(t, api.MaxSource+1)})
	for i, c := range out {
		c.read.p, c.read.line, c.read.place, c.read.e = policy.Parse(c.s)
		c.text, c.e = policy.Print(c.p)
		c.may = policy.Check(c.p)
		out[i] = c
	}
	return out
}

// again asks for what was asked for.
func (c call) again(t *testing.T, what string) {
	t.Helper()
	if p, line, place, e := policy.Parse(c.s); !same(p, c.read.p) || line != c.read.line || place != c.read.place || e != c.read.e {
		t.Errorf("R4: %.200q %s: %s, %d, %d, %d; want %s, %d, %d, %d", c.s, what, told(p), line, place, e, told(c.read.p), c.read.line, c.read.place, c.read.e)
	}
	if s, e := policy.Print(c.p); s != c.text || e != c.e {
		t.Errorf("R4: %s %s: %.200q, %d; want %.200q, %d", told(c.p), what, s, e, c.text, c.e)
	}
	if e := policy.Check(c.p); e != c.may {
		t.Errorf("R4: %s %s: %d; want %d", told(c.p), what, e, c.may)
	}
}

// Nothing hangs on what was asked for ahead, nor on what is asked for beside it.
func TestSameEachTime(t *testing.T) {
	all := calls(t, 51)
	for i := range all {
		all[i*7%len(all)].again(t, "later")
	}
	var side sync.WaitGroup
	for worker := range 8 {
		side.Go(func() {
			for i := range all {
				all[(i+31*worker)%len(all)].again(t, "side by side")
			}
		})
	}
	side.Wait()
}

// roomy is a policy whose lists have room behind them, in which something stands.
func roomy(p api.Policy) api.Policy {
	room := func(l []api.Node) []api.Node {
		return append(slices.Clone(l), word(api.OfUDP), kind(api.NodeNot), kind(99))[:len(l)]
	}
	p.Pass, p.Active, p.Demand = room(p.Pass), room(p.Active), room(p.Demand)
	many := len(p.Classes)
	classes := make([]api.Class, 0, many+3)
	for _, c := range p.Classes {
		c.Tree = room(c.Tree)
		classes = append(classes, c)
	}
	p.Classes = append(classes, api.Class{Name: "more", Depth: 9, Tree: list(word(api.OfIP))}, api.Class{Name: "A"}, api.Class{Depth: -1})[:many]
	return p
}

// whole is a policy with what stands in the room behind its lists.
func whole(p api.Policy) api.Policy {
	p.Pass, p.Active, p.Demand = p.Pass[:cap(p.Pass)], p.Active[:cap(p.Active)], p.Demand[:cap(p.Demand)]
	p.Classes = slices.Clone(p.Classes[:cap(p.Classes)])
	for i, c := range p.Classes {
		p.Classes[i].Tree = c.Tree[:cap(c.Tree)]
	}
	return p
}

// What was handed in stays, the room behind its lists too, and what stands there counts for nothing.
func TestHandedInStays(t *testing.T) {
	for _, c := range calls(t, 52) {
		p := roomy(c.p)
		was := copied(whole(p))
		if e := policy.Check(p); e != c.may {
			t.Errorf("R3: %s: %d with something behind its lists; want %d", told(c.p), e, c.may)
		}
		if s, e := policy.Print(p); s != c.text || e != c.e {
			t.Errorf("R3: %s: %.200q, %d with something behind its lists; want %.200q, %d", told(c.p), s, e, c.text, c.e)
		}
		if !same(whole(p), was) {
			t.Errorf("R3: %s: what was handed in was changed", told(c.p))
		}
	}
}

// spoil writes over all lists of a policy, and the room behind them.
func spoil(p api.Policy) {
	p = whole(p)
	for _, l := range lists(p) {
		for at := range l {
			l[at] = kind(98)
		}
	}
}

// lists tells all lists of nodes of a policy.
func lists(p api.Policy) [][]api.Node {
	out := [][]api.Node{p.Pass, p.Active, p.Demand}
	for _, c := range p.Classes {
		out = append(out, c.Tree)
	}
	return out
}

// What is handed out is memory of its own: each list of it, and each answer.
func TestHandedOutIsNew(t *testing.T) {
	for _, c := range calls(t, 53) {
		if c.read.e != api.OK {
			continue
		}
		want := copied(c.read.p)
		first, second := says(t, c.s), says(t, c.s)
		for i, l := range lists(first) {
			for _, n := range l[len(l):cap(l)] {
				if n != (api.Node{}) {
					t.Errorf("R3: %.200q: something stands behind a list", c.s)
				}
			}
			for at := range l[:cap(l)] {
				l[:cap(l)][at] = kind(98)
			}
			_ = append(l, kind(97))
			for j, other := range lists(first) {
				if wanted := lists(want)[j]; j > i && !slices.Equal(other, wanted) {
					t.Errorf("R3: %.200q: lists %d and %d of one answer share memory", c.s, i, j)
				}
			}
		}
		for _, more := range first.Classes[len(first.Classes):cap(first.Classes)] {
			if !sameClass(more, api.Class{}) {
				t.Errorf("R3: %.200q: something stands behind the classes", c.s)
			}
		}
		for at := range first.Classes {
			first.Classes[at] = api.Class{Name: "spoilt"}
		}
		_ = append(first.Classes, api.Class{Name: "more"})
		if !same(second, want) || !same(c.read.p, want) {
			t.Errorf("R3: %.200q: two answers share memory", c.s)
		}
		spoil(second)
		c.again(t, "behind one that was written over")
	}
}

// The tree that is handed in many times is one list for its owner, and as many for who reads the text.
func TestOneTreeOfMany(t *testing.T) {
	tree := treeOf(t, "ip and not udp")
	p := api.Policy{Pass: tree, Active: tree, Demand: tree, Classes: []api.Class{{Name: "a", Depth: 1, Tree: tree}, {Name: "b", Depth: 1, Tree: tree}}, Rest: 1}
	s := prints(t, p)
	q := says(t, s)
	for at := range tree {
		tree[at] = kind(99)
	}
	for i, l := range lists(q) {
		for j, other := range lists(q) {
			if i != j && &l[0] == &other[0] {
				t.Errorf("R3: lists %d and %d are one", i, j)
			}
		}
	}
	if !same(q, says(t, s)) {
		t.Errorf("R3: the answer shares memory with what was handed in")
	}
}
