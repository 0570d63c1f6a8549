package compile_test

import (
	"encoding/hex"
	"fmt"
	"math"
	"regexp"
	"slices"
	"strings"
	"testing"

	"riddle/api"
	"riddle/check"
	"riddle/compile"
	"riddle/frame"
	"riddle/insn"
	"riddle/mean"
	"riddle/parse"
	"riddle/vm"
)

func number(n uint32) api.Node      { return api.Node{Kind: api.NodeNumber, N: n} }
func word(of int) api.Node          { return api.Node{Kind: api.NodeWord, Of: of} }
func load(of, size int) api.Node    { return api.Node{Kind: api.NodeLoad, Of: of, Size: size} }
func arith(op int) api.Node         { return api.Node{Kind: api.NodeArith, Op: op} }
func rel(op int) api.Node           { return api.Node{Kind: api.NodeRel, Op: op} }
func kind(k int) api.Node           { return api.Node{Kind: k} }
func list(l ...api.Node) []api.Node { return l }

func many(n int, k api.Node) []api.Node     { return slices.Repeat(list(k), n) }
func behind(parts ...[]api.Node) []api.Node { return slices.Concat(parts...) }
func joined(parts ...[]byte) []byte         { return slices.Concat(parts...) }

func ways() []int     { return []int{api.WayIn, api.WayOut} }
func plain() api.Link { return api.Link{} }
func rich() api.Link  { return api.Link{ACFC: true, PFC: true, MP: api.MultiLong} }

// links tells all links that may be.
func links() []api.Link {
	var out []api.Link
	for _, acfc := range []bool{false, true} {
		for _, pfc := range []bool{false, true} {
			for mp := range 3 {
				out = append(out, api.Link{ACFC: acfc, PFC: pfc, MP: mp})
			}
		}
	}
	return out
}

// noLinks tells links that may not be.
func noLinks() []api.Link {
	var out []api.Link
	for _, mp := range []int{-1, 3, 4, 9, 255, 256, 257, 1 << 16, 1 << 32, math.MinInt, math.MaxInt} {
		out = append(out, api.Link{MP: mp}, api.Link{ACFC: true, PFC: true, MP: mp})
	}
	return out
}

// fromHex tells the bytes of digits, blanks between them left aside.
func fromHex(s string) []byte {
	b, err := hex.DecodeString(strings.ReplaceAll(s, " ", ""))
	if err != nil {
		panic(err)
	}
	return b
}

// f is the frame of the examples in the chapters: udp from 1.2.3.4, port 53, to 5.6.7.8, port 54.
func f() []byte {
	return fromHex("ff 03 00 21 45 00 00 18 00 00 00 00 40 11 00 00 01 02 03 04 05 06 07 08 00 35 00 36")
}

// treeOf tells the tree of a source.
func treeOf(t testing.TB, s string) []api.Node {
	t.Helper()
	l, _, place, e := parse.Parse(s)
	if e != api.OK {
		t.Fatalf("%.200q: %d, %d", s, place, e)
	}
	return l
}

// told is a tree that is told in few words: of each of the first nodes what is not zero.
type told []api.Node

func (l told) String() string {
	zero := regexp.MustCompile(`(\w+:0|Addr:\[0( 0)*\]) ?`)
	var out []string
	for _, n := range l[:min(len(l), 20)] {
		out = append(out, zero.ReplaceAllString(fmt.Sprintf("%+v", n), ""))
	}
	return strings.Join(out, " ")
}

// safe holds a program to check, to MaxProgram, and to its bytes.
func safe(t testing.TB, what any, p []api.Insn) {
	t.Helper()
	if place, e := check.Check(p); place != 0 || e != api.OK {
		t.Fatalf("P19.3: %.200v: check tells %d, %d of %d instructions", what, place, e, len(p))
	}
	if len(p) > api.MaxProgram {
		t.Fatalf("P19.3: %.200v: %d instructions", what, len(p))
	}
	b, _ := insn.Encode(p)
	if q, e := insn.Decode(b); e != api.OK || !slices.Equal(p, q) {
		t.Fatalf("T3: %.200v: other instructions from its bytes, %d", what, e)
	}
}

// ofSource tells the program of a source that is a filter.
func ofSource(t testing.TB, s string, link api.Link) []api.Insn {
	t.Helper()
	p, place, e := compile.Compile(s, link)
	if place != 0 || e != api.OK {
		t.Fatalf("P19.1: %.200q, %+v: %d, %d", s, link, place, e)
	}
	safe(t, s, p)
	return p
}

// ofTree tells the program of a tree that is a filter.
func ofTree(t testing.TB, l []api.Node, link api.Link) []api.Insn {
	t.Helper()
	p, e := compile.Tree(l, link)
	if e != api.OK {
		t.Fatalf("P19.2: %.200v, %+v: %d", told(l), link, e)
	}
	safe(t, told(l), p)
	return p
}

// comesTo holds a program's run to what is wanted.
func comesTo(t testing.TB, what any, p []api.Insn, link api.Link, way int, b []byte, want uint32) {
	t.Helper()
	if v, e := vm.Run(p, frame.Packet(way, b)); v.Value != want || e != api.OK {
		t.Errorf("P19.3: %.200v, %+v, way %d, %.120x: %+v, %d; want %d", what, link, way, b, v, e, want)
	}
}

// holds tells the value of a truth.
func holds(truth bool) uint32 {
	if truth {
		return 1
	}
	return 0
}

// tally counts what filters said: how often no, and how often yes.
type tally [2]int

// enough asks that each was said often enough to tell something.
func (n tally) enough(t testing.TB, least int) {
	t.Helper()
	if n[0] < least || n[1] < least {
		t.Errorf("only %d times no, %d times yes", n[0], n[1])
	}
}

// agrees holds the runs of a filter's program, both ways, to what the filter says of frames.
func (n *tally) agrees(t testing.TB, p []api.Insn, l []api.Node, link api.Link, frames ...[]byte) {
	t.Helper()
	for _, b := range frames {
		for _, way := range ways() {
			matches, e := mean.Match(l, link, way, b)
			if e != api.OK {
				t.Fatalf("%.200v is no filter: %d", told(l), e)
			}
			n[holds(matches)]++
			comesTo(t, told(l), p, link, way, b, holds(matches))
		}
	}
}
