package plan_test

import (
	"fmt"
	"math/rand"
	"slices"
	"sync"
	"testing"

	"riddle/api"
	"riddle/plan"
)

// call is a plan, a frame, and what was said of it first.
type call struct {
	n    *plan.Plan
	l    api.Link
	way  int
	b    []byte
	want reply
}

func calls(t *testing.T, seed int64) []call {
	t.Helper()
	chance := rand.New(rand.NewSource(seed))
	var some []*plan.Plan
	for range 12 {
		some = append(some, of(t, policyByChance(t, chance)))
	}
	some = append(some, plans(t)...)
	var out []call
	for i := range 1500 {
		l := links()[chance.Intn(12)]
		all := frames(l)
		c := call{n: some[i%len(some)], l: l, way: chance.Intn(2), b: all[chance.Intn(len(all))]}
		c.want = ask(t, c.n, c.l, c.way, c.b)
		out = append(out, c)
	}
	return out
}

func (c call) again(t *testing.T, what string) {
	t.Helper()
	if got := ask(t, c.n, c.l, c.way, c.b); got != c.want {
		t.Errorf("R4: %+v, way %d, %.120x %s: %+v; want %+v", c.l, c.way, c.b, what, got, c.want)
	}
}

// Nothing hangs on what was asked for ahead, nor on what is asked for beside it, of the same plan or of another one.
func TestSameEachTime(t *testing.T) {
	all := calls(t, 31)
	for i := range all {
		all[i*7%len(all)].again(t, "later")
	}
	var side sync.WaitGroup
	for worker := range 8 {
		side.Go(func() {
			for i := range all {
				all[(i+131*worker)%len(all)].again(t, "side by side")
			}
		})
	}
	side.Wait()
}

// Two plans of one policy say the same, and have the same programs.
func TestTwoPlansOfOnePolicy(t *testing.T) {
	chance := rand.New(rand.NewSource(32))
	for range 20 {
		p := policyByChance(t, chance)
		first, second := of(t, p), of(t, p)
		for which := -1; which < 20; which++ {
			for _, l := range links() {
				c, ok := first.Program(which, l)
				if d, also := second.Program(which, l); ok != also || !slices.Equal(c, d) {
					t.Errorf("R4: %s, %d, %+v: another program of the same filter", told(p), which, l)
				}
			}
		}
	}
}

// Plans of other policies, made and asked between, change nothing.
func TestPlansSideBySide(t *testing.T) {
	yes, no := said(t, "pass udp", "active udp", "demand udp", "class a 1 udp"), said(t, "pass tcp", "active tcp", "demand tcp", "class a 1 tcp")
	for range 3 {
		for _, l := range links() {
			says(t, yes, l, 0, f(), reply{pass: true, active: true, demand: true, class: 0})
			says(t, no, l, 0, f(), reply{class: 1})
			none := said(t)
			says(t, none, l, 1, f(), reply{pass: true, active: true})
		}
	}
}

// What is handed in stays, the room behind it too, and what stands in that room counts for nothing.
func TestHandedInStays(t *testing.T) {
	chance := rand.New(rand.NewSource(33))
	for range 60 {
		p := policyByChance(t, chance)
		room := func(l []api.Node) []api.Node {
			return append(slices.Clone(l), word(api.OfTCP), kind(api.NodeNot), kind(99))[:len(l)]
		}
		roomy := copied(p)
		roomy.Pass, roomy.Active, roomy.Demand = room(p.Pass), room(p.Active), room(p.Demand)
		for at, c := range p.Classes {
			roomy.Classes[at].Tree = room(c.Tree)
		}
		roomy.Classes = append(roomy.Classes, api.Class{Name: "A"}, api.Class{Depth: -1})[:len(p.Classes)]
		n := of(t, roomy)
		if !same(roomy, p) {
			t.Fatalf("R3: %s: what was handed in was changed", told(p))
		}
		for at, l := range filters(roomy) {
			if !slices.Equal(l[:len(l)+3][len(l):], list(word(api.OfTCP), kind(api.NodeNot), kind(99))) {
				t.Fatalf("R3: %s: the room behind filter %d was changed", told(p), at)
			}
		}
		var seen tally
		for turn, l := range links() {
			seen.agrees(t, n, p, l, oneOf(211, turn, frames(l))...)
		}
	}
}

// Frames stay, and the room behind them.
func TestFramesStay(t *testing.T) {
	n := of(t, full(t))
	for _, l := range links() {
		for _, b := range oneOf(9, l.MP, frames(l)) {
			whole := joined(b, f())
			was := slices.Clone(whole)
			in := whole[:len(b)]
			want := ask(t, n, l, 1, b)
			if got := ask(t, n, l, 1, in); got != want {
				t.Errorf("R3: %+v, %x: what stands behind the frame counts: %+v; want %+v", l, b, got, want)
			}
			if !slices.Equal(whole, was) {
				t.Fatalf("R3: %+v, %x: the frame was changed", l, b)
			}
		}
	}
	// Nor is a frame kept: written over, it is another one.
	b := f()
	before := ask(t, n, plain(), 1, b)
	for at := range b {
		b[at] = 0
	}
	if after, want := ask(t, n, plain(), 1, b), ask(t, n, plain(), 1, make([]byte, len(b))); after != want || after == before {
		t.Errorf("R3: %+v; want %+v", after, want)
	}
}

// What Program hands out is memory of its own each time: written over, it changes nothing that the plan says, and no other program.
func TestHandedOutIsNew(t *testing.T) {
	p := full(t)
	n := of(t, p)
	was := map[string][]api.Insn{}
	each := func(do func(which int, l api.Link, key string)) {
		for which := range 19 {
			for _, l := range links() {
				do(which, l, fmt.Sprint(which, l))
			}
		}
	}
	each(func(which int, l api.Link, key string) { was[key] = program(t, n, which, l) })
	want := map[string][]api.Insn{}
	for key, c := range was {
		want[key] = slices.Clone(c)
	}
	each(func(which int, l api.Link, key string) {
		c := program(t, n, which, l)
		if slices.ContainsFunc(c[len(c):cap(c)], func(i api.Insn) bool { return i != api.Insn{} }) {
			t.Errorf("R3: %s: something stands behind the program", key)
		}
		_ = append(c, api.Insn{Code: api.RetA})
		for at := range c[:cap(c)] {
			c[:cap(c)][at] = api.Insn{Code: api.RetK, K: 1}
		}
	})
	each(func(which int, l api.Link, key string) {
		if got := program(t, n, which, l); !slices.Equal(got, want[key]) || !slices.Equal(was[key], want[key]) {
			t.Errorf("R3: %s: two answers share memory", key)
		}
	})
	var seen tally
	for turn, l := range links() {
		seen.agrees(t, n, p, l, oneOf(31, turn, frames(l))...)
	}
}
