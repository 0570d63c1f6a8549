package engine_test

import (
	"fmt"
	"math"
	"slices"
	"testing"

	"riddle/api"
	"riddle/engine"
	"riddle/parse"
	"riddle/policy"
)

// everything is a policy that may be, with something in each field, and as many classes as may be.
func everything(t testing.TB) api.Policy {
	t.Helper()
	p := policyOf(t, "pass ip or ip6 or lcp", "active not lcp", "demand outbound and ip", "rest 3", "idle 5", "most 12", "hold 4")
	for n := range api.MaxClasses {
		tree, _, _, e := parse.Parse(fmt.Sprintf("port %d", 53+n))
		if e != api.OK {
			t.Fatal(e)
		}
		p.Classes = append(p.Classes, api.Class{Name: fmt.Sprintf("c%d", n), Depth: n%3 + 1, Tree: tree})
	}
	return p
}

func mayNot(t testing.TB, what any, turn func(p *api.Policy)) {
	t.Helper()
	p := everything(t)
	turn(&p)
	if policy.Check(p) == api.OK {
		t.Fatalf("%v: this policy may be", what)
	}
	for _, from := range []api.Counts{{}, {Forward: 1, Mosts: top}} {
		if x, e := engine.New(p, from); x != nil || e != api.ErrEnginePolicy {
			t.Errorf("P24.1: %v: an engine: %v, %d; want none, %d", what, x != nil, e, api.ErrEnginePolicy)
		}
	}
}

func TestPoliciesThatMayNotBe(t *testing.T) {
	mayNot(t, "nothing at all", func(p *api.Policy) { *p = api.Policy{} })
	for _, n := range []int{0, -1, 1025, math.MinInt, math.MaxInt, 1<<32 + 1} {
		mayNot(t, []any{"rest", n}, func(p *api.Policy) { p.Rest = n })
		mayNot(t, []any{"depth of the first", n}, func(p *api.Policy) { p.Classes[0].Depth = n })
		mayNot(t, []any{"depth of the last", n}, func(p *api.Policy) { p.Classes[15].Depth = n })
	}
	for _, n := range []int{-1, 65, math.MinInt, math.MaxInt, 1 << 32} {
		mayNot(t, []any{"hold", n}, func(p *api.Policy) { p.Hold = n })
	}
	for _, name := range []string{"", "0", "A", "a b", "abcdefghijklmnopq", "c0"} {
		mayNot(t, []any{"name", name}, func(p *api.Policy) { p.Classes[1].Name = name })
	}
	mayNot(t, "17 classes", func(p *api.Policy) {
		p.Classes = append(p.Classes, api.Class{Name: "one", Depth: 1, Tree: slices.Clone(p.Pass)})
	})
	wrong := [][]api.Node{{{}}, {{Kind: api.NodeLen}}, {{Kind: api.NodeAnd}}, {{Kind: 99}}}
	for _, l := range wrong {
		mayNot(t, "pass", func(p *api.Policy) { p.Pass = l })
		mayNot(t, "active", func(p *api.Policy) { p.Active = l })
		mayNot(t, "demand", func(p *api.Policy) { p.Demand = l })
		mayNot(t, "a class", func(p *api.Policy) { p.Classes[7].Tree = l })
	}
	mayNot(t, "a class without a filter", func(p *api.Policy) { p.Classes[15].Tree = nil })
}

// New tells an engine in PhaseDown, whatever the policy is, whose counts begin at from.
func TestNew(t *testing.T) {
	var most api.Counts
	for _, c := range counters(&most) {
		*c = top
	}
	some := api.Counts{Forward: 1, Queued: 2, Held: 3, Taken: 4, Long: 5, Down: 6, Pass: 7, Hold: 8, Full: 9, Lost: 10, Dials: 11, Idles: 12, Mosts: 13}
	for _, p := range []api.Policy{{Rest: 1}, {Rest: 1024, Hold: 64, Idle: top, Most: top}, {Rest: 2, Pass: []api.Node{}, Classes: []api.Class{}}, everything(t)} {
		for _, from := range []api.Counts{{}, some, most} {
			b := bothOf(t, p, from)
			b.counted(t, from)
			b.stands(t, api.State{Lens: make([]int, len(p.Classes)+1)})
			b.play(t, step{tick(), nothing()}, step{take(), nothing()}, step{down(), nothing()})
			b.counted(t, from)
			b.do(t, in(g()))
			b.do(t, up(plain()))
			b.do(t, out(g()))
		}
	}
}

// The policy may be written over behind New, in all its lists: the engine has what it said.
func TestWrittenOver(t *testing.T) {
	was := policyOf(t, "pass not tcp", "active udp", "demand udp port 53", "class a 2 udp", "class b 1 lcp", "rest 3", "idle 2", "most 4", "hold 2")
	p := copied(was)
	b := &both{of(t, p, api.Counts{}), modelOf(was, api.Counts{})}
	for _, l := range [][]api.Node{p.Pass, p.Active, p.Demand, p.Classes[0].Tree, p.Classes[1].Tree} {
		for at := range l {
			l[at] = api.Node{Kind: api.NodeWord, Of: api.OfTCP}
		}
	}
	for at := range p.Classes {
		p.Classes[at] = api.Class{Name: "spoilt", Depth: 1000}
	}
	p.Rest, p.Idle, p.Most, p.Hold = 1000, 1000, 1000, 64
	b.play(t,
		step{out(tcp()), fate(drop(api.WhyDown))},
		step{out(g()), dials(held())},
		step{out(lcp()), fate(held())},
		step{out(g()), fate(drop(api.WhyHold))},
		step{out(tcp()), fate(drop(api.WhyPass))},
		step{up(plain()), sent(queued(0), queued(1))},
		step{out(g()), fate(queued(0))},
		step{out(g()), fate(full(0))},
		step{out(lcp()), fate(full(1))},
		step{out(fromHex("ff 03 c0 23")), fate(queued(2))},
		step{tick(), nothing()},
		step{tick(), hangs(api.HangIdle)},
		step{up(rich()), sent()},
		step{tick(), nothing()}, step{in(g()), forward()}, step{tick(), nothing()}, step{in(g()), forward()}, step{tick(), nothing()}, step{in(g()), forward()},
		step{tick(), hangs(api.HangMost)},
	)
}
