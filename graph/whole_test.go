package graph_test

import (
	"math"
	"math/rand"
	"slices"
	"testing"

	"riddle/api"
	"riddle/check"
	"riddle/graph"
	"riddle/vm"
)

// instruction tells one that may stand in a Code, whose numbers are such that packets of some bytes are met and missed.
func instruction(r *rand.Rand, codes []uint16, known map[uint16]sort) api.Insn {
	code := codes[r.Intn(len(codes))]
	i := api.Insn{Code: code, Jt: uint8(r.Intn(256)), Jf: uint8(r.Intn(3)), K: uint32(r.Intn(12))}
	switch known[code] {
	case parts:
		i.K++
	case cell:
		i.K = uint32(r.Intn(16))
	case shifts:
		i.K = uint32(r.Intn(32))
	case anyK:
		if code&7 == 4 && r.Intn(2) == 0 {
			i.K = r.Uint32()
		}
	}
	return i
}

// maker makes graphs and programs by chance, the same each time.
type maker struct {
	*rand.Rand
	codes, asking []uint16
	known         map[uint16]sort
}

func newMaker(seed int64) maker {
	known := straights()
	return maker{rand.New(rand.NewSource(seed)), inOrder(known), inOrder(tests()), known}
}

func (m maker) code(most int) []api.Insn {
	var out []api.Insn
	for range m.Intn(most + 1) {
		out = append(out, instruction(m.Rand, m.codes, m.known))
	}
	return out
}

func (m maker) question() api.Insn {
	i := k(m.asking[m.Intn(len(m.asking))], 0)
	if tests()[i.Code] {
		i.K = []uint32{0, 1, 3, 7, 64, math.MaxUint32}[m.Intn(6)]
	}
	return i
}

// graph tells one of n blocks that is taken.
func (m maker) graph(n int) []api.Block {
	out := make([]api.Block, n)
	for at := range out {
		left := n - 1 - at
		switch kind := m.Intn(8); {
		case left == 0 || kind == 0:
			out[at] = ret(uint32(m.Intn(5)), m.code(3)...)
			if m.Intn(2) == 0 {
				out[at].Last = k(api.RetA, 0)
			}
		case kind < 4:
			out[at] = goes(at+1+m.Intn(left), m.code(3)...)
		default:
			out[at] = test(m.question(), at+1+m.Intn(left), at+1+m.Intn(left), m.code(3)...)
		}
	}
	return out
}

func (m maker) packet() []byte {
	out := make([]byte, m.Intn(20))
	for at := range out {
		out[at] = []byte{0, 1, 3, 7, 64, 255}[m.Intn(6)]
	}
	return out
}

// lay puts blocks one behind the other with a Ja to each goal, as plainly as can be; from tells where each begins.
func lay(g []api.Block) []api.Insn {
	var from []int
	at := 0
	for _, b := range g {
		from = append(from, at)
		at += len(b.Code) + map[int]int{api.EndReturn: 1, api.EndGo: 1, api.EndTest: 3}[b.End]
	}
	var out []api.Insn
	ja := func(goal int) { out = append(out, k(api.Ja, uint32(from[goal]-len(out)-1))) }
	for _, b := range g {
		out = append(out, b.Code...)
		switch b.End {
		case api.EndReturn:
			out = append(out, b.Last)
		case api.EndGo:
			ja(b.Yes)
		default:
			last := b.Last
			last.Jf = 1
			out = append(out, last)
			ja(b.Yes)
			ja(b.No)
		}
	}
	return out
}

// carried tells how many Ja a run of a program carries out.
func carried(t *testing.T, p []api.Insn, packet []byte) int {
	places, e := vm.Trace(p, packet)
	if e != api.OK {
		t.Fatalf("vm does not run %v: %d", p, e)
	}
	n := 0
	for _, at := range places {
		if p[at].Code == api.Ja {
			n++
		}
	}
	return n
}

// expectAsProgram holds runs of a graph against runs of its program.
func expectAsProgram(t *testing.T, promise string, g []api.Block, p []api.Insn, packet []byte) api.Verdict {
	t.Helper()
	want, e := vm.Run(p, packet)
	if e != api.OK {
		t.Fatalf("vm does not run %v: %d", p, e)
	}
	want.Steps -= carried(t, p, packet)
	v, e := graph.Run(g, packet)
	if e != api.OK || v != want {
		t.Fatalf("%s: %+v, %d; want %+v\n%+v\n%v\n% x", promise, v, e, want, g, p, packet)
	}
	if size, e := graph.Size(g); e != api.OK || v.Steps > size {
		t.Fatalf("P15.5: %d steps, a size of %d, %d", v.Steps, size, e)
	}
	return v
}

// TestRunsBesideVm: graphs by chance, laid out by a second hand.
func TestRunsBesideVm(t *testing.T) {
	m := newMaker(15)
	faults := map[int]int{}
	for range 4000 {
		g := m.graph(1 + m.Intn(12))
		if at, e := graph.Check(g); at != 0 || e != api.OK {
			t.Fatalf("P15.1: %d, %d: %+v", at, e, g)
		}
		p := lay(g)
		measure, e := graph.Measure(g)
		if e != api.OK || measure != len(p) {
			t.Fatalf("P15.3: Measure %d, %d; want %d: %+v", measure, e, len(p), g)
		}
		for range 4 {
			faults[expectAsProgram(t, "P15.2", g, p, m.packet()).Fault]++
		}
	}
	for _, fault := range []int{api.FaultNone, api.FaultLoad, api.FaultZero} {
		if faults[fault] < 100 {
			t.Errorf("only %d runs ended by %d", faults[fault], fault)
		}
	}
}

// TestReachBesidePlainSteps finds the blocks by going on till nothing new is found.
func TestReachBesidePlainSteps(t *testing.T) {
	m := newMaker(16)
	hidden := 0
	for range 2000 {
		g := m.graph(1 + m.Intn(30))
		want := make([]bool, len(g))
		want[0] = true
		for at, b := range g {
			if want[at] && b.End != api.EndReturn {
				want[b.Yes] = true
			}
			if want[at] && b.End == api.EndTest {
				want[b.No] = true
			}
		}
		got, e := graph.Reach(g)
		if e != api.OK || !slices.Equal(got, want) {
			t.Fatalf("P15.3: %v, %d; want %v: %+v", got, e, want, g)
		}
		if slices.Contains(want, false) {
			hidden++
		}
	}
	if hidden < 500 {
		t.Errorf("only %d graphs had blocks that can't be come to", hidden)
	}
}

// program tells one of n instructions that check takes.
func (m maker) program(n int) []api.Insn {
	out := make([]api.Insn, n)
	for at := range out {
		left := min(n-1-at, 256)
		switch kind := m.Intn(10); {
		case left == 0 || kind == 0:
			out[at] = api.Insn{Code: []uint16{api.RetK, api.RetA}[m.Intn(2)], Jt: uint8(m.Intn(2)), Jf: uint8(m.Intn(2)), K: uint32(m.Intn(4))}
		case kind == 1:
			out[at] = api.Insn{Code: api.Ja, Jt: uint8(m.Intn(2)), Jf: uint8(m.Intn(2)), K: uint32(m.Intn(n - 1 - at))}
		case kind < 5:
			out[at] = api.Insn{Code: m.asking[m.Intn(len(m.asking))], Jt: uint8(m.Intn(min(left, 6))), Jf: uint8(m.Intn(left)), K: uint32(m.Intn(5))}
		default:
			out[at] = instruction(m.Rand, m.codes, m.known)
		}
	}
	return out
}

// firsts tells the places at which blocks begin, as the chapter says it.
func firsts(p []api.Insn) []int {
	out := []int{0}
	for at, i := range p {
		switch i.Code & 7 {
		case api.ClassRet:
			out = append(out, at+1)
		case api.ClassJmp:
			yes, no := int(i.Jt), int(i.Jf)
			if i.Code == api.Ja {
				yes, no = int(i.K), int(i.K)
			}
			out = append(out, at+1, at+1+yes, at+1+no)
		}
	}
	slices.Sort(out)
	return slices.Compact(out)
}

// cut is a second reckoning of P15.4.
func cut(p []api.Insn) []api.Block {
	begins := firsts(p)
	number := func(place int) int { return slices.Index(begins, place) }
	var out []api.Block
	for n, from := range begins[:len(begins)-1] {
		to := begins[n+1]
		last := p[to-1]
		b := api.Block{Code: p[from : to-1]}
		switch {
		case last.Code&7 == api.ClassRet:
			b.End, b.Last = api.EndReturn, api.Insn{Code: last.Code, K: last.K}
			if last.Code == api.RetA {
				b.Last.K = 0
			}
		case last.Code == api.Ja:
			b.End, b.Yes = api.EndGo, number(to+int(last.K))
		case last.Code&7 == api.ClassJmp:
			b.End, b.Yes, b.No = api.EndTest, number(to+int(last.Jt)), number(to+int(last.Jf))
			b.Last = api.Insn{Code: last.Code, K: last.K}
			if last.Code&8 != 0 {
				b.Last.K = 0
			}
		default:
			b.Code, b.End, b.Yes = p[from:to], api.EndGo, n+1
		}
		out = append(out, b)
	}
	return out
}

// TestProgramsByChance holds P15.4 and P15.5 over programs of all lengths.
func TestProgramsByChance(t *testing.T) {
	m := newMaker(17)
	for round := range 3000 {
		n := 1 + m.Intn(20)
		if round%100 == 0 {
			n = 1 + m.Intn(api.MaxProgram)
		}
		p := m.program(n)
		if place, e := check.Check(p); e != api.OK {
			t.Fatalf("check does not take %v: %d at %d", p, e, place)
		}
		was := slices.Clone(p)
		g, e := graph.Of(p)
		if want := cut(p); e != api.OK || !same(g, want) {
			t.Fatalf("P15.4: %+v, %d; want %+v: %v", g, e, want, p)
		}
		if at, e := graph.Check(g); at != 0 || e != api.OK {
			t.Fatalf("P15.5: %d, %d: %v", at, e, p)
		}
		for range 4 {
			expectAsProgram(t, "P15.5", g, p, m.packet())
		}
		if !slices.Equal(p, was) {
			t.Fatalf("R3: the program was changed")
		}
	}
}

// first is a second reckoning of P15.1, of a graph of few blocks with short Codes.
func first(g []api.Block) (int, api.Errno) {
	known := straights()
	inner := func(v, at int) bool { return v > at && v <= len(g)-1 }
	for at, b := range g {
		for _, i := range b.Code {
			s, ok := known[i.Code]
			if !ok || s == cell && i.K > 15 || s == parts && i.K == 0 || s == shifts && i.K >= 32 {
				return at, api.ErrGraphCode
			}
		}
		looks, okay := false, false
		switch b.End {
		case api.EndReturn:
			looks, okay = returns()[b.Last.Code]
			okay = okay && b.Yes == 0 && b.No == 0
		case api.EndGo:
			okay = b.Last.Code == 0 && b.No == 0
		case api.EndTest:
			looks, okay = tests()[b.Last.Code]
		}
		if !okay || b.Last.Jt != 0 || b.Last.Jf != 0 || !looks && b.Last.K != 0 {
			return at, api.ErrGraphEnd
		}
		if b.End != api.EndReturn && !inner(b.Yes, at) || b.End == api.EndTest && !inner(b.No, at) {
			return at, api.ErrGraphGoal
		}
	}
	return 0, api.OK
}

// spoil changes one thing of a block; often the graph may no longer be.
func (m maker) spoil(b *api.Block, n int) {
	if len(b.Code) > 0 && m.Intn(3) == 0 {
		i := &b.Code[m.Intn(len(b.Code))]
		if m.Intn(2) == 0 {
			i.Code = uint16(m.Intn(0xb4))
		} else {
			i.K = []uint32{0, 15, 16, 31, 32, math.MaxUint32}[m.Intn(6)]
		}
		return
	}
	switch m.Intn(7) {
	case 0:
		b.End = m.Intn(6) - 1
	case 1:
		b.Last.Code = uint16(m.Intn(0x50))
	case 2:
		b.Last.K = uint32(m.Intn(2))
	case 3:
		b.Last.Jt = uint8(m.Intn(2))
	case 4:
		b.Last.Jf = uint8(m.Intn(2))
	case 5:
		b.Yes = m.Intn(n+3) - 1
	default:
		b.No = m.Intn(n+3) - 1
	}
}

// TestSpoiledGraphs holds Check to a second reckoning of it.
func TestSpoiledGraphs(t *testing.T) {
	m := newMaker(18)
	seen := map[api.Errno]int{}
	for range 20000 {
		g := m.graph(1 + m.Intn(6))
		for range m.Intn(4) {
			m.spoil(&g[m.Intn(len(g))], len(g))
		}
		place, want := first(g)
		seen[want]++
		expectCheck(t, "a spoiled graph", g, place, want)
	}
	for _, e := range []api.Errno{api.OK, api.ErrGraphCode, api.ErrGraphEnd, api.ErrGraphGoal} {
		if seen[e] < 500 {
			t.Errorf("only %d graphs had %d", seen[e], e)
		}
	}
}

// BenchmarkRun runs the greatest graph there may be.
func BenchmarkRun(b *testing.B) {
	g := make([]api.Block, api.MaxBlocks)
	for at := range g {
		g[at] = test(k(api.JgtK, 9), at+1, at+1, k(api.AddK, 2))
	}
	g[api.MaxBlocks-1] = retA(k(api.AddK, 2))
	for b.Loop() {
		graph.Run(g, nil)
	}
}
