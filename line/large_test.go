package line_test

import (
	"slices"
	"strings"
	"testing"

	"riddle/api"
	"riddle/line"
	"riddle/vm"
)

func repeat(s string, n int) string { return strings.Repeat(s, n) }

func run(t testing.TB, p []api.Insn, packet []byte) api.Verdict {
	t.Helper()
	v, e := vm.Run(p, packet)
	if e != api.OK {
		t.Fatalf("vm does not run a program of %d: %d", len(p), e)
	}
	return v
}

// jas tells how many Ja a program has.
func jas(p []api.Insn) int {
	n := 0
	for _, i := range p {
		if i.Code == api.Ja {
			n++
		}
	}
	return n
}

// ladder tells n tests behind each other, of which each leaves for one block behind them all: at yes, at no, or now at the one and now at the other.
func ladder(n int, leaves func(at int) bool, code ...api.Insn) []api.Block {
	var out []api.Block
	for at := range n {
		b := test(k(api.JeqK, uint32(at)), at+1, n+1, code...)
		if leaves(at) {
			b.Yes, b.No = b.No, b.Yes
		}
		out = append(out, b)
	}
	return append(out, ret(1), ret(2))
}

func TestLadders(t *testing.T) {
	packets := append(few(), []byte{200}, []byte{100, 3})
	for _, n := range []int{1, 2, 253, 254, 255, 256, 257, 300, 511, 512, 800, 1000, 1364} {
		for what, leaves := range map[string]func(at int) bool{
			"at yes": func(int) bool { return true }, "at no": func(int) bool { return false },
			"at both": func(at int) bool { return at%2 == 0 }, "at no seldom": func(at int) bool { return at%7 != 6 },
		} {
			p := laid(t, what, ladder(n, leaves), packets...)
			// The last 255 tests, and the return behind them, are as far as the bytes go.
			if want := max(0, n-255); jas(p) != want || len(p) != n+2+want {
				t.Errorf("%d tests, %s: %d Ja, %d instructions; want %d Ja", n, what, jas(p), len(p), want)
			}
			if n <= 512 {
				laid(t, what, ladder(n, leaves, k(api.LdAbsB, 0), k(api.AddK, 3)), packets...)
			}
		}
	}
}

// TestLaddersToMany has ladders to several blocks, which lie at the end, or one behind each rung.
func TestLaddersToMany(t *testing.T) {
	packets := append(few(), []byte{200}, []byte{100, 3})
	for _, n := range []int{2, 120, 127, 128, 129, 250, 600, 800} {
		var spread, paired []api.Block
		for at := range n {
			spread = append(spread, test(k(api.JgtK, uint32(2*n-at)), n+at, min(at+1, n), k(api.AddK, 2)))
			paired = append(paired, test(k(api.JsetK, 1), 2*at+1, 2*at+2, k(api.AddK, 1)), goes(2*n, k(api.AddK, 2)))
		}
		for at := range n {
			spread = append(spread, ret(uint32(at)))
		}
		if measured(t, spread) <= api.MaxProgram {
			laid(t, "to many", spread, packets...)
		}
		if n <= 600 {
			laid(t, "by goes", append(paired, retA()), packets...)
		}
	}
}

// TestDominoes: each test's goal is as far as its byte can say. With one instruction more ahead of the last one's, that one needs a Ja, which makes the one ahead of it too far, and so on to the first.
func TestDominoes(t *testing.T) {
	const n = 256
	for _, more := range []int{0, 1, 2} {
		var g []api.Block
		for at := range n {
			g = append(g, test(k(api.JeqK, uint32(at+1000)), n+at, at+1))
		}
		for at := range n {
			g = append(g, ret(uint32(at)))
		}
		g[2*n-2].Code = many(more)
		p := laid(t, "dominoes", g, few()...)
		if want := n * min(more, 1); jas(p) != want {
			t.Errorf("dominoes with %d more: %d Ja; want %d", more, jas(p), want)
		}
		for at := range n {
			h := slices.Clone(g)
			h[0].Code = []api.Insn{k(api.LdImm, uint32(at+1000))}
			if v := run(t, laid(t, "dominoes", h, nil), nil); v.Value != uint32(at) {
				t.Errorf("P18.2: dominoes: %+v; want %d", v, at)
			}
		}
	}
}

// row tells as many blocks as may be, each as it is told, the last ones as they are given.
func row(block func(n int) api.Block, last ...api.Block) []api.Block {
	out := make([]api.Block, api.MaxBlocks)
	ends := api.MaxBlocks - len(last)
	for n := range ends {
		out[n] = block(n)
	}
	copy(out[ends:], last)
	return out
}

func TestAsManyBlocks(t *testing.T) {
	const end = api.MaxBlocks - 1
	turns := func(n int) api.Block {
		if n%2 == 0 {
			return goes(end)
		}
		return ret(uint32(n))
	}
	for what, c := range map[string]struct {
		g    []api.Block
		want int
	}{
		// Of a go past nothing but such goes nothing is laid.
		"goes to the next one":         {row(func(n int) api.Block { return goes(n + 1) }, ret(6)), 1},
		"goes to the next one but one": {row(func(n int) api.Block { return goes(min(n+2, end)) }, ret(6)), 1},
		"goes to the last one":         {row(func(n int) api.Block { return goes(end) }, ret(6)), 1},
		"goes and returns in turn":     {row(turns), api.MaxBlocks - 1},
		"returns":                      {row(func(n int) api.Block { return ret(uint32(n)) }), api.MaxBlocks},
	} {
		if n := measured(t, c.g); n != api.MaxProgram {
			t.Fatalf("%s: a Measure of %d", what, n)
		}
		if p := laid(t, what, c.g, few()...); len(p) != c.want {
			t.Errorf("%s: %d instructions; want %d", what, len(p), c.want)
		}
	}
	far := row(func(n int) api.Block { return ret(uint32(n)) })
	far[0] = goes(end)
	if v := run(t, laid(t, "a far go", far, nil), nil); v.Value != end || v.Steps != 2 {
		t.Errorf("P18.2: a far go: %+v", v)
	}
	refuses(t, "tests", row(func(n int) api.Block { return test(k(api.JeqX, 0), n+1, end) }, ret(1)), api.ErrLineLong)
	refuses(t, "goes with a code", row(func(n int) api.Block { return goes(n+1, k(api.AddK, 1)) }, ret(1)), api.ErrLineLong)
}

// TestAsManyInstructions has programs of MaxProgram instructions and graphs of that Measure, in blocks of all lengths.
func TestAsManyInstructions(t *testing.T) {
	for _, n := range []int{1, 2, 3, 7, 60, 252, 253, 254, 255, 256, 1000, 2040} {
		var g []api.Block
		left := api.MaxProgram - 2
		for at := 0; left >= n+3; at++ {
			g = append(g, test(k(api.JsetK, 1), at+1, 0, many(n)...))
			left -= n + 3
		}
		for at := range g {
			g[at].No = min(at+2, len(g))
			if at%5 == 4 {
				g[at].No = len(g) + 1
			}
		}
		g = append(g, retA(many(left)...), ret(9))
		if m := measured(t, g); m != api.MaxProgram {
			t.Fatalf("a Measure of %d", m)
		}
		laid(t, "as many as may be", g, few()...)
	}
}

// BenchmarkLinear has a graph about as great as may be.
func BenchmarkLinear(b *testing.B) {
	g := ladder(1360, func(int) bool { return true })
	for b.Loop() {
		line.Linear(g)
	}
}
