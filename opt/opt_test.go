package opt_test

import (
	"math"
	"slices"
	"testing"

	"riddle/api"
	"riddle/asm"
	"riddle/graph"
	"riddle/opt"
)

func k(code uint16, v uint32) api.Insn { return api.Insn{Code: code, K: v} }

func ret(v uint32, code ...api.Insn) api.Block {
	return api.Block{Code: code, End: api.EndReturn, Last: k(api.RetK, v)}
}

func retA(code ...api.Insn) api.Block {
	return api.Block{Code: code, End: api.EndReturn, Last: k(api.RetA, 0)}
}

func goes(to int, code ...api.Insn) api.Block {
	return api.Block{Code: code, End: api.EndGo, Yes: to}
}

func test(last api.Insn, yes, no int, code ...api.Insn) api.Block {
	return api.Block{Code: code, End: api.EndTest, Last: last, Yes: yes, No: no}
}

func list(g ...api.Block) []api.Block { return g }

// sum is instructions by which A comes to hang on each of A, X and M[3]; it reads no other word.
func sum() []api.Insn {
	return []api.Insn{
		k(api.St, 4), k(api.Txa, 0), k(api.MulK, 31), k(api.St, 5), k(api.LdMem, 3), k(api.MulK, 1009),
		k(api.LdxMem, 5), k(api.AddX, 0), k(api.LdxMem, 4), k(api.AddX, 0),
	}
}

// straights tells the codes that may stand in a Code, and numbers K for each that have something about them; nil where it looks at none.
func straights() map[uint16][]uint32 {
	plain := []uint32{0, 1, 3, 31, 32, 255, 1 << 31, math.MaxUint32}
	place := []uint32{0, 1, 2, 5, 6, 9, api.MaxPacket - 4, api.MaxPacket - 2, api.MaxPacket - 1, api.MaxPacket, math.MaxUint32}
	cell := []uint32{0, 3, api.MaxScratch - 1}
	shift := []uint32{0, 1, 8, 31}
	divisor := []uint32{1, 2, 7, math.MaxUint32}
	return map[uint16][]uint32{
		api.LdImm: plain, api.LdAbsW: place, api.LdAbsH: place, api.LdAbsB: place, api.LdIndW: place, api.LdIndH: place, api.LdIndB: place, api.LdMem: cell, api.LdLen: nil,
		api.LdxImm: plain, api.LdxMem: cell, api.LdxLen: nil, api.LdxMsh: place, api.St: cell, api.Stx: cell,
		api.AddK: plain, api.SubK: plain, api.MulK: plain, api.OrK: plain, api.AndK: plain, api.XorK: plain,
		api.AddX: nil, api.SubX: nil, api.MulX: nil, api.OrX: nil, api.AndX: nil, api.XorX: nil,
		api.DivK: divisor, api.ModK: divisor, api.DivX: nil, api.ModX: nil, api.LshK: shift, api.RshK: shift, api.LshX: nil, api.RshX: nil,
		api.Neg: nil, api.Tax: nil, api.Txa: nil,
	}
}

// questions tells the codes that may be Last of a test, likewise.
func questions() map[uint16][]uint32 {
	plain := []uint32{0, 1, 5, 7, 32, 255, 1 << 31, math.MaxUint32}
	return map[uint16][]uint32{
		api.JeqK: plain, api.JgtK: plain, api.JgeK: plain, api.JsetK: plain,
		api.JeqX: nil, api.JgtX: nil, api.JgeX: nil, api.JsetX: nil,
	}
}

// each tells the instructions of a table, in the order of their codes.
func each(table map[uint16][]uint32) []api.Insn {
	var codes []uint16
	for code := range table {
		codes = append(codes, code)
	}
	slices.Sort(codes)
	var out []api.Insn
	for _, code := range codes {
		if table[code] == nil {
			out = append(out, k(code, 0))
		}
		for _, v := range table[code] {
			out = append(out, k(code, v))
		}
	}
	return out
}

// beginnings tells all beginnings of a packet, itself with them.
func beginnings(packet ...byte) [][]byte {
	var out [][]byte
	for n := range len(packet) + 1 {
		out = append(out, packet[:n])
	}
	return out
}

// few tells packets that are short, and differ in their first bytes.
func few() [][]byte {
	return append(beginnings(5, 3, 0, 255, 7, 1, 2, 9), []byte{0}, []byte{1, 0, 1}, []byte{7, 200, 3, 4, 5, 6, 7, 8, 9, 10, 11}, []byte{32, 31, 30, 29, 28, 27, 26, 25}, []byte{255, 255, 255, 255, 255, 255, 255, 255})
}

// copied tells a graph's copy.
func copied(g []api.Block) []api.Block {
	out := slices.Clone(g)
	for n := range out {
		out[n].Code = slices.Clone(out[n].Code)
	}
	return out
}

// same holds graphs against each other, with nil and empty Codes as one.
func same(one, two []api.Block) bool {
	return slices.EqualFunc(one, two, func(a, b api.Block) bool {
		return slices.Equal(a.Code, b.Code) && a.End == b.End && a.Last == b.Last && a.Yes == b.Yes && a.No == b.No
	})
}

// short tells the first blocks of a graph, for a message.
func short(g []api.Block) []api.Block { return g[:min(len(g), 12)] }

// counts tells a graph's Size and Measure.
func counts(t *testing.T, g []api.Block) (int, int) {
	t.Helper()
	size, e := graph.Size(g)
	measure, f := graph.Measure(g)
	if e != api.OK || f != api.OK {
		t.Fatalf("graph does not take %+v: %d, %d", short(g), e, f)
	}
	return size, measure
}

// holds asks that a graph is taken, no greater than another one, and says the same over packets in no more steps.
func holds(t *testing.T, promise, what string, g, h []api.Block, packets [][]byte) {
	t.Helper()
	if place, e := graph.Check(h); e != api.OK {
		t.Fatalf("%s: %s: graph tells %d at %d: %+v, of %+v", promise, what, e, place, short(h), short(g))
	}
	size, measure := counts(t, g)
	if s, m := counts(t, h); s > size || m > measure {
		t.Fatalf("%s: %s: Size %d to %d, Measure %d to %d: %+v, of %+v", promise, what, size, s, measure, m, short(h), short(g))
	}
	for _, p := range packets {
		was, _ := graph.Run(g, p)
		is, e := graph.Run(h, p)
		if e != api.OK || is.Value != was.Value || is.Steps > was.Steps {
			t.Fatalf("%s: %.200s over % .20x (%d bytes): %+v, was %+v\n%+v, of\n%+v", promise, what, p, len(p), is, was, short(h), short(g))
		}
	}
}

// improved tells the answer to a graph, and holds it to P17.1, P17.2 and P17.3 with these packets.
func improved(t *testing.T, what string, g []api.Block, packets [][]byte) []api.Block {
	t.Helper()
	was := copied(g)
	h, e := opt.Improve(g)
	if e != api.OK {
		t.Fatalf("P17.1: %s: %d: %+v", what, e, short(g))
	}
	if !same(g, was) {
		t.Fatalf("R3: %s: what was handed in was changed: %+v, was %+v", what, short(g), short(was))
	}
	holds(t, "P17.1", what, g, h, packets)
	if left := things(h); len(left) > 0 {
		t.Fatalf("P17.2: %s: points %v: %+v, of %+v", what, left, short(h), short(g))
	}
	again, e := opt.Improve(h)
	if e != api.OK {
		t.Fatalf("P17.3: %s: %d: %+v", what, e, short(h))
	}
	if same(again, h) {
		return h
	}
	holds(t, "P17.3", what, h, again, packets)
	if left := things(again); len(left) > 0 {
		t.Fatalf("P17.3: %s: points %v: %+v, of %+v", what, left, short(again), short(h))
	}
	return h
}

// becomes asks for an answer that is free, but is what this package gives.
func becomes(t *testing.T, what string, g []api.Block, want ...api.Block) {
	t.Helper()
	if h := improved(t, what, g, few()); !same(h, want) {
		t.Errorf("%s: %+v; want %+v", what, h, want)
	}
}

// of tells the graph of a program's text.
func of(t *testing.T, text string) []api.Block {
	t.Helper()
	p, place, e := asm.Parse(text)
	if e != api.OK {
		t.Fatalf("%q: %d at %d", text, e, place)
	}
	g, e := graph.Of(p)
	if e != api.OK {
		t.Fatalf("%q: %d", text, e)
	}
	return g
}

func TestExamplesOfTheChapter(t *testing.T) {
	becomes(t, "a go", list(goes(1), ret(7)), ret(7))

	known := list(test(k(api.JeqK, 7), 1, 2, k(api.LdImm, 5), k(api.AddK, 2)), ret(1), ret(0))
	h := improved(t, "a known word", known, few())
	if v, e := graph.Run(h, nil); e != api.OK || v.Value != 1 || v.Steps > 2 {
		t.Errorf("P17.1: a known word: %+v, %d", v, e)
	}
	if len(h) != 1 || h[0].End != api.EndReturn || h[0].Last != k(api.RetK, 1) {
		t.Errorf("P17.2: a known word: %+v", h)
	}

	asked := list(test(k(api.JgtK, 9), 1, 1, k(api.LdAbsB, 0), k(api.St, 3)), retA(k(api.LdImm, 1)))
	h = improved(t, "a byte", asked, few())
	if v, e := graph.Run(h, nil); e != api.OK || v.Value != 0 || v.Steps > 1 {
		t.Errorf("P17.1: a byte that is not there: %+v, %d", v, e)
	}
	if len(h) != 1 || len(h[0].Code) == 0 || h[0].Code[0] != k(api.LdAbsB, 0) || len(h[0].Code) > 2 {
		t.Errorf("P17.2: a byte: %+v", h)
	}
}

// refuses asks for the error, and nothing beside it.
func refuses(t *testing.T, what string, g []api.Block) {
	t.Helper()
	if _, e := graph.Check(g); e == api.OK {
		t.Fatalf("%s: graph takes it", what)
	}
	if h, e := opt.Improve(g); e != api.ErrOptGraph || len(h) != 0 {
		t.Errorf("P17.1, R2: %s: %+v, %d; want ErrOptGraph", what, short(h), e)
	}
}

func TestRefused(t *testing.T) {
	refuses(t, "nil", nil)
	refuses(t, "no block", []api.Block{})
	refuses(t, "a block that is nothing", make([]api.Block, 1))
	many := slices.Repeat(list(goes(0)), api.MaxBlocks+1)
	for n := range many {
		many[n].Yes = n + 1
	}
	many[api.MaxBlocks] = ret(0)
	refuses(t, "a block too many", many)
	long := slices.Repeat([]api.Insn{k(api.Tax, 0)}, api.MaxProgram+1)
	refuses(t, "an instruction too many", list(ret(0, long...)))
	refuses(t, "an instruction too many, in two blocks", list(goes(1, long[:9]...), ret(0, long[9:]...)))
	for _, code := range []uint16{8, 0xffff, api.Ja, api.JeqK, api.RetK, api.RetA} {
		refuses(t, "a code", list(ret(0, k(code, 0))))
		refuses(t, "a code where no run comes", list(ret(0), ret(0, k(code, 0))))
	}
	for _, i := range []api.Insn{k(api.St, 16), k(api.Stx, 16), k(api.LdMem, 16), k(api.LdxMem, math.MaxUint32), k(api.DivK, 0), k(api.ModK, 0), k(api.LshK, 32), k(api.RshK, 32)} {
		refuses(t, "a K", list(ret(0, i)))
		refuses(t, "a K where no run comes", list(ret(0), ret(0, i)))
	}
	wrong := func(change func(b *api.Block)) []api.Block {
		g := list(test(k(api.JeqX, 0), 1, 2), goes(2), ret(5))
		change(&g[0])
		return g
	}
	for what, change := range map[string]func(b *api.Block){
		"an end of 0": func(b *api.Block) { b.End = 0 }, "an end of 4": func(b *api.Block) { b.End = 4 }, "an end below 0": func(b *api.Block) { b.End = -1 },
		"a test by Ja": func(b *api.Block) { b.Last.Code = api.Ja }, "a test by a return": func(b *api.Block) { b.Last.Code = api.RetK }, "a test with a K that it does not look at": func(b *api.Block) { b.Last.K = 1 },
		"a test with Jt": func(b *api.Block) { b.Last.Jt = 1 }, "a test with Jf": func(b *api.Block) { b.Last.Jf = 1 },
		"a go with Last": func(b *api.Block) { *b = goes(1); b.Last.K = 1 }, "a go with No": func(b *api.Block) { *b = goes(1); b.No = 1 }, "a return with Yes": func(b *api.Block) { *b = ret(1); b.Yes = 1 },
		"a goal at home": func(b *api.Block) { b.Yes = 0 }, "a goal below 0": func(b *api.Block) { b.No = -1 }, "a goal behind the end": func(b *api.Block) { b.No = 3 }, "a go behind the end": func(b *api.Block) { *b = goes(3) },
	} {
		refuses(t, what, wrong(change))
	}
	refuses(t, "a go back", list(goes(1), goes(0), ret(1)))
}
