package line_test

import (
	"math"
	"slices"
	"testing"

	"riddle/api"
	"riddle/asm"
	"riddle/check"
	"riddle/graph"
	"riddle/line"
	"riddle/vm"
)

func k(code uint16, v uint32) api.Insn { return api.Insn{Code: code, K: v} }

func ret(v uint32, code ...api.Insn) api.Block {
	return api.Block{Code: code, End: api.EndReturn, Last: k(api.RetK, v)}
}

func retA(code ...api.Insn) api.Block {
	return api.Block{Code: code, End: api.EndReturn, Last: k(api.RetA, 0)}
}

func goes(to int, code ...api.Insn) api.Block {
	return api.Block{Code: code, End: api.EndGo, Yes: to}
}

func test(last api.Insn, yes, no int, code ...api.Insn) api.Block {
	return api.Block{Code: code, End: api.EndTest, Last: last, Yes: yes, No: no}
}

func list(g ...api.Block) []api.Block { return g }

// many tells n instructions, behind which A is n more than it was.
func many(n int) []api.Insn { return slices.Repeat([]api.Insn{k(api.AddK, 1)}, n) }

// few tells packets that are short, and differ in their first bytes.
func few() [][]byte {
	return [][]byte{nil, {5}, {6}, {0}, {1, 2}, {255, 255, 255, 255}, {5, 6, 7, 8, 9, 10, 11, 12}, {6, 0, 0, 1, 0, 3}}
}

// short tells the first blocks of a graph, for a message.
func short(g []api.Block) []api.Block {
	out := slices.Clone(g[:min(len(g), 8)])
	for n := range out {
		out[n].Code = out[n].Code[:min(len(out[n].Code), 4)]
	}
	return out
}

func measured(t testing.TB, g []api.Block) int {
	t.Helper()
	n, e := graph.Measure(g)
	if e != api.OK {
		t.Fatalf("graph does not take %+v: %d", short(g), e)
	}
	return n
}

// byWay tells how many Ja a run of a program carries out.
func byWay(t testing.TB, p []api.Insn, packet []byte) int {
	t.Helper()
	places, e := vm.Trace(p, packet)
	if e != api.OK {
		t.Fatalf("vm does not run a program: %d", e)
	}
	n := 0
	for _, at := range places {
		if p[at].Code == api.Ja {
			n++
		}
	}
	return n
}

// laid tells the program of a graph, and holds it to P18.1, and to P18.2 over the packets.
func laid(t testing.TB, what string, g []api.Block, packets ...[]byte) []api.Insn {
	t.Helper()
	p, e := line.Linear(g)
	if e != api.OK {
		t.Fatalf("P18.1: %s: %d: %+v", what, e, short(g))
	}
	if place, e := check.Check(p); e != api.OK {
		t.Fatalf("P18.1: %s: check tells %d at %d of %d: %+v", what, e, place, len(p), short(g))
	}
	if n := measured(t, g); len(p) > n {
		t.Fatalf("P18.1: %s: %d instructions, a Measure of %d: %+v", what, len(p), n, short(g))
	}
	for _, packet := range packets {
		want, e := graph.Run(g, packet)
		got, f := vm.Run(p, packet)
		if e != f {
			t.Fatalf("P18.2: %s over % .20x: %d, of the graph %d", what, packet, f, e)
		}
		if got.Value != want.Value || got.Fault != want.Fault || got.Steps < want.Steps {
			t.Fatalf("P18.2: %.200s over % .20x (%d bytes): %+v, of the graph %+v: %+v", what, packet, len(packet), got, want, short(g))
		}
		// All that is between them are the Ja: so no step is made twice, and none that the graph does not have.
		if e == api.OK && got.Steps != want.Steps+byWay(t, p, packet) {
			t.Fatalf("%.200s over % .20x: %+v, of the graph %+v: %+v", what, packet, got, want, short(g))
		}
	}
	return p
}

// becomes asks for an answer that is free, but is what this package gives.
func becomes(t *testing.T, what string, g []api.Block, text string) {
	t.Helper()
	want, place, e := asm.Parse(text)
	if e != api.OK {
		t.Fatalf("%q: %d at %d", text, e, place)
	}
	if p := laid(t, what, g, few()...); !slices.Equal(p, want) {
		t.Errorf("%s: %v; want %v", what, p, want)
	}
}

// refuses asks for an error, and nothing beside it.
func refuses(t *testing.T, what string, g []api.Block, want api.Errno) {
	t.Helper()
	if p, e := line.Linear(g); e != want || len(p) != 0 {
		t.Errorf("P18.1, R2: %s: %d instructions, %d; want none, %d", what, len(p), e, want)
	}
}

func TestExamplesOfTheChapter(t *testing.T) {
	if p := laid(t, "a return", list(ret(7)), few()...); !slices.Equal(p, []api.Insn{k(api.RetK, 7)}) {
		t.Errorf("P18.1: a return: %v", p)
	}
	body := slices.Repeat([]api.Insn{k(api.Tax, 0)}, 300)
	for _, ask := range [][]api.Insn{nil, {k(api.LdAbsB, 0)}} {
		g := list(test(k(api.JeqK, 5), 1, 2, ask...), ret(1, body...), ret(0))
		p := laid(t, "300 between", g, few()...)
		if len(p) > 305+len(ask) {
			t.Errorf("P18.1: 300 between: %d instructions", len(p))
		}
	}
}

func TestGraphThatIsNotTaken(t *testing.T) {
	refused := func(what string, g ...api.Block) {
		t.Helper()
		if _, e := graph.Check(g); e == api.OK {
			t.Fatalf("%s: graph takes it", what)
		}
		refuses(t, what, g, api.ErrLineGraph)
	}
	refused("nil")
	refuses(t, "no block", []api.Block{}, api.ErrLineGraph)
	refused("a block that is nothing", api.Block{})
	refused("a block too many", slices.Repeat(list(ret(0)), api.MaxBlocks+1)...)
	refused("an instruction too many", ret(0, many(api.MaxProgram+1)...))
	refused("an instruction too many, in two blocks", goes(1, many(9)...), ret(0, many(api.MaxProgram-8)...))
	for _, code := range []uint16{8, 0xffff, api.Ja, api.JeqK, api.RetK, api.RetA} {
		refused("a code", ret(0, k(code, 0)))
		refused("a code where no run comes", ret(0), ret(0, k(code, 0)))
	}
	for _, i := range []api.Insn{k(api.St, 16), k(api.Stx, 16), k(api.LdMem, 16), k(api.LdxMem, math.MaxUint32), k(api.DivK, 0), k(api.ModK, 0), k(api.LshK, 32), k(api.RshK, 32)} {
		refused("a K", ret(0, i))
		refused("a K where no run comes", ret(0), ret(0, i))
	}
	for what, change := range map[string]func(b *api.Block){
		"an end of 0": func(b *api.Block) { b.End = 0 }, "an end of 4": func(b *api.Block) { b.End = 4 }, "an end below 0": func(b *api.Block) { b.End = -1 },
		"a test by Ja": func(b *api.Block) { b.Last.Code = api.Ja }, "a test by a return": func(b *api.Block) { b.Last.Code = api.RetK }, "a test with a K that it does not look at": func(b *api.Block) { b.Last.K = 1 },
		"a test with Jt": func(b *api.Block) { b.Last.Jt = 1 }, "a test with Jf": func(b *api.Block) { b.Last.Jf = 1 },
		"a go with Last": func(b *api.Block) { *b = goes(1); b.Last.K = 1 }, "a go with No": func(b *api.Block) { *b = goes(1); b.No = 1 }, "a return with Yes": func(b *api.Block) { *b = ret(1); b.Yes = 1 },
		"a goal at home": func(b *api.Block) { b.Yes = 0 }, "a goal below 0": func(b *api.Block) { b.No = -1 }, "a goal behind the end": func(b *api.Block) { b.No = 3 }, "a go behind the end": func(b *api.Block) { *b = goes(3) },
		"the least goal": func(b *api.Block) { b.Yes = math.MinInt }, "the greatest goal": func(b *api.Block) { *b = goes(math.MaxInt) },
	} {
		g := list(test(k(api.JeqX, 0), 1, 2), goes(2), ret(5))
		change(&g[0])
		refused(what, g...)
	}
	refused("a go back", goes(1), goes(0), ret(1))
	refused("a last block that goes on", goes(1), goes(2))
}

// tests tells n tests that each go on at the next one, whatever they are answered, and a return: a Measure of 3n + 1.
func tests(n int) []api.Block {
	var out []api.Block
	for at := range n {
		out = append(out, test(k(api.JgtK, uint32(at)), at+1, at+1))
	}
	return append(out, retA())
}

// behind tells a graph with instructions put ahead of its first block's.
func behind(n int, g []api.Block) []api.Block {
	out := slices.Clone(g)
	out[0].Code = slices.Concat(many(n), g[0].Code)
	return out
}

// TestMeasure has graphs of each kind whose Measure is as great as may be, and one greater; how short they could be does not count.
func TestMeasure(t *testing.T) {
	for what, g := range map[string][]api.Block{
		"a Code":             list(ret(3)),
		"a Code and a go":    list(goes(1), retA()),
		"tests":              tests(1364),
		"few tests":          tests(5),
		"goes":               append(chain(4000), ret(4)),
		"returns":            slices.Repeat(list(ret(6)), 4000),
		"all kinds":          list(test(k(api.JsetK, 2), 2, 1), goes(3), ret(1), retA()),
		"no run comes there": list(ret(1), ret(2), ret(2)),
	} {
		room := api.MaxProgram - measured(t, g)
		for _, less := range []int{0, 1, 2} {
			if less > room {
				continue
			}
			h := behind(room-less, g)
			if n := measured(t, h); n != api.MaxProgram-less {
				t.Fatalf("%s: a Measure of %d", what, n)
			}
			laid(t, what, h, few()...)
		}
		for _, more := range []int{1, 2} {
			h := behind(room, g)
			for range more {
				h = append(h, ret(9))
			}
			if n := len(h); n > api.MaxBlocks {
				continue
			}
			if n := measured(t, h); n != api.MaxProgram+more {
				t.Fatalf("%s: a Measure of %d", what, n)
			}
			refuses(t, what, h, api.ErrLineLong)
		}
	}
	refuses(t, "tests", tests(1366), api.ErrLineLong)
	refuses(t, "a test each block", tests(api.MaxBlocks-1), api.ErrLineLong)
	refuses(t, "a Code as long as may be", list(ret(0, many(api.MaxProgram)...)), api.ErrLineLong)
	refuses(t, "a Code as long as may be, behind a go", list(goes(1), ret(0, many(api.MaxProgram)...)), api.ErrLineLong)
	refuses(t, "as great as may be", greatest(), api.ErrLineLong)
}

// chain tells n blocks that each go to the next one.
func chain(n int) []api.Block {
	var out []api.Block
	for at := range n {
		out = append(out, goes(at+1))
	}
	return out
}

// greatest tells the graph with the most blocks and the most instructions.
func greatest() []api.Block {
	out := tests(api.MaxBlocks - 1)
	for n := range out {
		out[n].Code = many(1)
	}
	return out
}

// TestWhichError: a graph that is not taken is no long one.
func TestWhichError(t *testing.T) {
	long := greatest()
	refuses(t, "long", long, api.ErrLineLong)
	for _, at := range []int{0, 1, 2000, api.MaxBlocks - 1} {
		for what, change := range map[string]func(b *api.Block){
			"a code": func(b *api.Block) { b.Code = []api.Insn{k(api.Ja, 0)} }, "an end": func(b *api.Block) { b.End = 0 }, "a goal": func(b *api.Block) { *b = goes(at) }, "an instruction too many": func(b *api.Block) { b.Code = many(2) },
		} {
			g := slices.Clone(long)
			change(&g[at])
			refuses(t, what, g, api.ErrLineGraph)
		}
	}
	refuses(t, "long, and a block too many", append(slices.Clone(long), ret(0)), api.ErrLineGraph)
	refuses(t, "a Code too long", list(ret(0, many(api.MaxProgram+1)...)), api.ErrLineGraph)
}

func TestOneBlock(t *testing.T) {
	for _, v := range []uint32{0, 1, 7, 255, 256, 65535, 1 << 31, math.MaxUint32} {
		for _, n := range []int{0, 1, 2, 254, 255, 256, 4094, 4095} {
			p := laid(t, "one block", list(ret(v, many(n)...)), few()...)
			if want := append(many(n), k(api.RetK, v)); !slices.Equal(p, want) {
				t.Errorf("one block: %d instructions; want %d", len(p), len(want))
			}
			laid(t, "one block", list(retA(append(many(n), k(api.LdImm, v))[1:]...)), few()...)
		}
	}
}

// TestCodesStay: the instructions of a Code stand as they are, also in what they do not look at.
func TestCodesStay(t *testing.T) {
	code := []api.Insn{{Code: api.LdLen, Jt: 1, Jf: 2, K: 3}, {Code: api.Tax, Jt: 255, Jf: 255, K: math.MaxUint32}, {Code: api.AddK, Jt: 9, K: 4}, {Code: api.AddX, K: 5}}
	want := slices.Concat(code, []api.Insn{k(api.RetA, 0)})
	if p := laid(t, "a Code", list(retA(code...)), few()...); !slices.Equal(p, want) {
		t.Errorf("a Code: %v; want %v", p, want)
	}
}

// TestEmptyCodes: a nil list and an empty one are one.
func TestEmptyCodes(t *testing.T) {
	for _, code := range [][]api.Insn{nil, {}, make([]api.Insn, 0, 5)} {
		g := list(test(k(api.JeqK, 0), 2, 1, code...), goes(3, code...), ret(1, code...), ret(2, code...))
		for n := range g {
			g[n].Code = code
		}
		becomes(t, "empty Codes", g, "jeq #0 1 0\nja 1\nret #1\nret #2")
	}
}

// TestEnds has each end of a run: values, and both faults by each instruction that has one.
func TestEnds(t *testing.T) {
	far := many(300)
	ends := func(b api.Block) {
		t.Helper()
		packets := append(few(), make([]byte, api.MaxPacket-1), make([]byte, api.MaxPacket), make([]byte, api.MaxPacket+1))
		laid(t, "at once", list(b), packets...)
		laid(t, "near", list(test(k(api.JgtK, 5), 1, 2, k(api.LdLen, 0)), b, ret(8)), packets...)
		laid(t, "far", list(test(k(api.JgtK, 5), 2, 1, k(api.LdLen, 0)), ret(8, far...), b), packets...)
		laid(t, "by a go", list(test(k(api.JgtK, 5), 2, 1, k(api.LdLen, 0)), goes(3, far...), goes(3), b), packets...)
	}
	seen := map[int]int{}
	for _, v := range []uint32{0, 1, 2, 255, 65536, 1 << 31, math.MaxUint32} {
		ends(ret(v))
		ends(retA(k(api.LdImm, v)))
	}
	for _, place := range []uint32{0, 1, 3, 4, 8, api.MaxPacket - 1, api.MaxPacket, math.MaxUint32} {
		for _, code := range []uint16{api.LdAbsW, api.LdAbsH, api.LdAbsB, api.LdIndW, api.LdIndH, api.LdIndB, api.LdxMsh} {
			b := ret(1, k(api.LdxImm, 1), k(code, place), k(api.AddX, 0))
			ends(b)
			v, _ := graph.Run(list(b), nil)
			seen[v.Fault]++
		}
	}
	for _, code := range []uint16{api.DivX, api.ModX} {
		b := retA(k(api.LdxLen, 0), k(api.LdImm, 1000), k(code, 0), k(api.AddK, 1))
		ends(b)
		v, _ := graph.Run(list(b), nil)
		seen[v.Fault]++
	}
	if seen[api.FaultLoad] == 0 || seen[api.FaultZero] == 0 {
		t.Errorf("not each fault was come to: %v", seen)
	}
}
