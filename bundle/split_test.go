package bundle_test

import (
	"bytes"
	"math"
	"strconv"
	"strings"
	"testing"

	"riddle/api"
	"riddle/bundle"
	"riddle/frame"
	"riddle/word"
)

// link tells the link that a text like A-0 says.
func link(s string) api.Link {
	return api.Link{ACFC: s[0] == 'A', PFC: s[1] == 'P', MP: int(s[2] - '0')}
}

// multilinks tells all links that have multilink.
func multilinks() []api.Link {
	var out []api.Link
	for at := range 8 {
		out = append(out, api.Link{ACFC: at%2 == 1, PFC: at/2%2 == 1, MP: 1 + at/4})
	}
	return out
}

// noMultilinks tells links that may not be, and those without multilink.
func noMultilinks() []api.Link {
	var out []api.Link
	for _, mp := range []int{0, -1, -2, 3, 4, 255, 256, 257, 258, 1<<32 + 1, 1<<32 + 2, math.MinInt, math.MinInt + 1, math.MaxInt} {
		for _, l := range multilinks()[:4] {
			l.MP = mp
			out = append(out, l)
		}
	}
	return out
}

// list tells the bytes of a text in which blanks may stand.
func list(t *testing.T, s string) []byte {
	t.Helper()
	b, ok := word.Unhex(strings.ReplaceAll(s, " ", ""))
	if !ok {
		t.Fatalf("%q is no text of bytes", s)
	}
	return b
}

// spaceOf tells how many numbers there are on a link with multilink.
func spaceOf(l api.Link) uint32 {
	if l.MP == api.MultiShort {
		return 4096
	}
	return 16777216
}

// counted tells a load of so many bytes in which no two places near to each other look alike.
func counted(size int) []byte {
	out := make([]byte, size)
	for at := range out {
		out[at] = byte(at ^ at>>8*7)
	}
	return out
}

// pieceText is a piece once more, as text.
func pieceText(l api.Link, begin, end bool, seq uint32, chunk []byte) string {
	first := map[[2]bool]string{{true, false}: "8", {false, true}: "4", {true, true}: "c", {false, false}: "0"}[[2]bool{begin, end}]
	digits := "0000000" + strconv.FormatUint(uint64(seq), 16)
	return "ff03003d" + first + digits[len(digits)-4*l.MP+1:] + word.Hex(chunk)
}

// cut tells the pieces of a load once more, taken from its end backwards.
func cut(l api.Link, b []byte, most int, first uint32) []string {
	count := max(1, (len(b)+most-1)/most)
	out := make([]string, count)
	rest := b
	for at := count - 1; at >= 0; at-- {
		seq := (uint64(first) + uint64(at)) % uint64(spaceOf(l))
		out[at] = pieceText(l, at == 0, at == count-1, uint32(seq), rest[at*most:])
		rest = rest[:at*most]
	}
	return out
}

// splits holds that a load is cut into these pieces.
func splits(t *testing.T, l api.Link, b []byte, most int, first uint32, want ...string) {
	t.Helper()
	pieces, e := bundle.Split(l, b, most, first)
	if e != api.OK || len(pieces) != len(want) {
		t.Fatalf("P9.1: Split(%+v, %d bytes, %d, %d) has %d pieces, error %d; want %d", l, len(b), most, first, len(pieces), e, len(want))
	}
	for at, piece := range pieces {
		if word.Hex(piece) != strings.ReplaceAll(want[at], " ", "") {
			t.Fatalf("P9.1: Split(%+v, %d bytes, %d, %d): piece %d is %.40x; want %.80s", l, len(b), most, first, at, piece, want[at])
		}
	}
}

// refused holds that a load is answered by an error and no pieces.
func refused(t *testing.T, l api.Link, size, most int, first uint32, want api.Errno) {
	t.Helper()
	if pieces, e := bundle.Split(l, make([]byte, size), most, first); e != want || len(pieces) != 0 {
		t.Errorf("P9.1: Split(%+v, %d bytes, %d, %d) has %d pieces, error %d; want error %d", l, size, most, first, len(pieces), e, want)
	}
}

func TestSplitExamples(t *testing.T) {
	splits(t, link("--1"), []byte{1, 2, 3}, 2, 4095, "ff 03 00 3d 8f ff 01 02", "ff 03 00 3d 40 00 03")
	splits(t, link("--1"), nil, 9, 0, "ff 03 00 3d c0 00")
	refused(t, link("--0"), 1, 1, 0, api.ErrBundleLink)
	refused(t, link("--1"), 1, 0, 0, api.ErrBundleSize)
	refused(t, link("--1"), 1, 1, 4096, api.ErrBundleSize)
	refused(t, link("--1"), 5000, 1, 0, api.ErrBundleMany)
}

func TestSplitByHand(t *testing.T) {
	abc := []byte{0xa, 0xb, 0xc, 0xd}
	splits(t, link("--1"), abc, 2, 258, "ff 03 00 3d 81 02 0a 0b", "ff 03 00 3d 41 03 0c 0d")
	splits(t, link("AP1"), abc, 3, 9, "ff 03 00 3d 80 09 0a 0b 0c", "ff 03 00 3d 40 0a 0d")
	splits(t, link("AP1"), abc, 4, 4095, "ff 03 00 3d cf ff 0a 0b 0c 0d")
	splits(t, link("-P1"), abc, 5, 1, "ff 03 00 3d c0 01 0a 0b 0c 0d")
	splits(t, link("A-1"), abc, 1, 4094, "ff 03 00 3d 8f fe 0a", "ff 03 00 3d 0f ff 0b", "ff 03 00 3d 00 00 0c", "ff 03 00 3d 40 01 0d")
	splits(t, link("--2"), abc, 1, 1<<24-2, "ff 03 00 3d 80 ff ff fe 0a", "ff 03 00 3d 00 ff ff ff 0b", "ff 03 00 3d 00 00 00 00 0c", "ff 03 00 3d 40 00 00 01 0d")
	splits(t, link("AP2"), abc, 2, 4095, "ff 03 00 3d 80 00 0f ff 0a 0b", "ff 03 00 3d 40 00 10 00 0c 0d")
	splits(t, link("AP2"), nil, 1, 0x10203, "ff 03 00 3d c0 01 02 03")
}

// TestSplitSizes has loads around whole numbers of chunks, and numbers around the space's end.
func TestSplitSizes(t *testing.T) {
	for _, l := range multilinks() {
		for _, most := range []int{1, 2, 3, 7, 16, 100} {
			for _, size := range []int{0, 1, most - 1, most, most + 1, 2*most - 1, 2 * most, 2*most + 1, 9*most - 1, 9 * most, 9*most + 1} {
				for _, first := range []uint32{0, 1, 4085, spaceOf(l) - 9, spaceOf(l) - 2, spaceOf(l) - 1} {
					b := counted(size)
					splits(t, l, b, most, first, cut(l, b, most, first)...)
				}
			}
		}
	}
}

// TestSplitGreatest has the greatest loads, chunks and counts of pieces.
func TestSplitGreatest(t *testing.T) {
	for _, l := range multilinks() {
		for _, x := range []struct{ size, most int }{
			{4096, 1}, {4095, 1}, {8191, 2}, {8192, 2}, {65535, 16}, {65535, 17}, {65535, 65527}, {65527, 65527}, {65526, 65527}, {65528, 65527}, {0, 65527}, {65535, 32768},
		} {
			b := counted(x.size)
			splits(t, l, b, x.most, 4090, cut(l, b, x.most, 4090)...)
		}
		pieces, _ := bundle.Split(l, make([]byte, 65535), 65527, 0)
		if len(pieces) != 2 || len(pieces[0]) != 65531+2*l.MP {
			t.Errorf("P9.1: the greatest chunk of %+v makes a piece of %d bytes", l, len(pieces[0]))
		}
	}
}

// TestSplitIsLooked has loads that begin with a protocol: what frame tells of the pieces is what they are.
func TestSplitIsLooked(t *testing.T) {
	for _, l := range multilinks() {
		pieces, _ := bundle.Split(l, []byte{0xc0, 0x21, 1, 2, 3, 4, 5}, 3, spaceOf(l)-1)
		for at, piece := range pieces {
			want := api.View{Proto: api.ProtoMulti, Multi: true, Begin: at == 0, End: at == 2, Seq: []uint32{spaceOf(l) - 1, 0, 1}[at], At: 4 + 2*l.MP}
			if at == 0 {
				want.Proto, want.At = api.ProtoLCP, want.At+2
			}
			if v, e := frame.Look(l, piece); e != api.OK || v != want {
				t.Errorf("P9.1: Look(%+v, %x) = %+v, %d; want %+v", l, piece, v, e, want)
			}
		}
	}
}

func TestSplitLink(t *testing.T) {
	for _, l := range noMultilinks() {
		for _, size := range []int{0, 1, 4097, 65535, 65536} {
			for _, most := range []int{-1, 0, 1, 65527, 65528} {
				for _, first := range []uint32{0, 4095, 4096, 1 << 24, math.MaxUint32} {
					refused(t, l, size, most, first, api.ErrBundleLink)
				}
			}
		}
	}
}

func TestSplitSize(t *testing.T) {
	for _, l := range multilinks() {
		space := spaceOf(l)
		for _, size := range []int{0, 1, 4096, 4097, 65535, 65536, 1 << 20} {
			for _, most := range []int{0, -1, -2, -65536, math.MinInt, 65528, 65529, 65535, 65536, 1 << 32, 1<<32 + 1, 1<<52 + 1, math.MaxInt} {
				refused(t, l, size, most, 0, api.ErrBundleSize)
				refused(t, l, size, most, space, api.ErrBundleSize)
			}
			for _, first := range []uint32{space, space + 1, 2 * space, 1 << 24, 1<<24 + 1, 1 << 31, math.MaxUint32} {
				for _, most := range []int{1, 16, 65527} {
					refused(t, l, size, most, first, api.ErrBundleSize)
				}
			}
		}
	}
}

func TestSplitLongAndMany(t *testing.T) {
	for _, l := range multilinks() {
		for _, most := range []int{1, 15, 16, 17, 4096, 65527} {
			for _, size := range []int{65536, 65537, 1 << 17} {
				refused(t, l, size, most, spaceOf(l)-1, api.ErrBundleLong)
			}
		}
		for _, x := range []struct{ size, most int }{{4097, 1}, {5000, 1}, {65535, 1}, {8193, 2}, {12289, 3}, {61441, 15}, {65535, 15}} {
			refused(t, l, x.size, x.most, 0, api.ErrBundleMany)
		}
	}
}

// TestSplitMemory has a load with spare room behind it, and writes into all that is handed out.
func TestSplitMemory(t *testing.T) {
	for _, l := range multilinks() {
		for size := range 40 {
			whole := bytes.Repeat([]byte{0xa5}, 60)
			b := whole[:size]
			want := cut(l, b, 7, 4094)
			pieces, _ := bundle.Split(l, b, 7, 4094)
			again, _ := bundle.Split(l, b, 7, 4094)
			for at, piece := range pieces {
				if word.Hex(piece) != want[at] {
					t.Fatalf("R3: piece %d is %x, once others were written into; want %s", at, piece, want[at])
				}
				if bytes.Contains(piece[len(piece):cap(piece)], []byte{0xa5}) {
					t.Fatalf("R3: piece %d has the load's bytes behind its end", at)
				}
				for i := range piece[:cap(piece)] {
					piece[:cap(piece)][i] ^= 0xff
				}
			}
			for at, piece := range again {
				if word.Hex(piece) != want[at] {
					t.Fatalf("R3: two answers share piece %d: %x; want %s", at, piece, want[at])
				}
			}
			if !bytes.Equal(whole, bytes.Repeat([]byte{0xa5}, 60)) {
				t.Fatalf("R3: what was handed in became %x", whole)
			}
		}
	}
}

func BenchmarkSplit(b *testing.B) {
	load := make([]byte, 65535)
	for b.Loop() {
		bundle.Split(api.Link{MP: api.MultiShort}, load, 16, 0)
	}
}
