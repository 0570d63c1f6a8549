package word_test

import (
	"bytes"
	"math"
	"slices"
	"strings"
	"testing"

	"riddle/api"
	"riddle/word"
)

// roomy tells b as a list with marked spare room behind its end, and the whole memory of it.
func roomy(b ...byte) (list, whole []byte) {
	whole = append(slices.Clone(b), 0xa5, 0xa5, 0xa5, 0xa5, 0xa5, 0xa5, 0xa5, 0xa5)
	return whole[:len(b)], whole
}

// scribble writes over a list and its spare room, as whoever was handed it may.
func scribble(b []byte) {
	for i := range b[:cap(b)] {
		b[:cap(b)][i] ^= 0xff
	}
}

// counting tells n bytes, no two neighbours of which are alike.
func counting(n int) []byte {
	b := make([]byte, n)
	for i := range b {
		b[i] = byte(i*7 + i>>8)
	}
	return b
}

func TestGet(t *testing.T) {
	b := []byte{0x81, 0x02, 0x03, 0xf4, 0x05}
	for _, x := range []struct {
		b        []byte
		at, size int
		want     uint32
		ok       bool
	}{
		{b, 0, 1, 0x81, true},
		{b, 4, 1, 0x05, true},
		{b, 0, 2, 0x8102, true},
		{b, 3, 2, 0xf405, true},
		{b, 0, 4, 0x810203f4, true},
		{b, 1, 4, 0x0203f405, true},
		{[]byte{1, 2, 3, 4}, 0, 4, 0x01020304, true},
		{[]byte{1, 2, 3, 4}, 1, 2, 0x0203, true},
		{[]byte{0xff, 0xff, 0xff, 0xff}, 0, 4, math.MaxUint32, true},
		{[]byte{0, 0, 0, 0}, 0, 4, 0, true},
	} {
		if v, ok := word.Get(x.b, x.at, x.size); v != x.want || ok != x.ok {
			t.Errorf("P1.1: Get(%x, %d, %d) = %#x, %v; want %#x, %v", x.b, x.at, x.size, v, ok, x.want, x.ok)
		}
	}
}

// wrongPlaces: what neither Get nor Put takes.
func wrongPlaces() []struct {
	b        []byte
	at, size int
} {
	b := []byte{1, 2, 3, 4, 5}
	return []struct {
		b        []byte
		at, size int
	}{
		{b, -1, 1}, {b, -1, 2}, {b, -4, 4}, {b, math.MinInt, 1}, {b, math.MinInt, 4},
		{b, 5, 1}, {b, 4, 2}, {b, 2, 4}, {b, 5, 4}, {b, 6, 1},
		{b, math.MaxInt, 1}, {b, math.MaxInt - 1, 2}, {b, math.MaxInt - 3, 4}, {b, math.MaxInt, 4},
		{b, 0, 0}, {b, 0, 3}, {b, 0, 5}, {b, 0, 8}, {b, 0, -1}, {b, 4, -2}, {b, 5, 0},
		{b, 0, math.MinInt}, {b, 0, math.MaxInt}, {b, math.MaxInt, math.MaxInt}, {b, math.MinInt, math.MinInt},
		{b[:1], 0, 2}, {b[:3], 0, 4}, {b[:2], 1, 2}, {b[:3], 3, 1},
		{nil, 0, 1}, {nil, 0, 4}, {nil, 0, 0}, {[]byte{}, 0, 1}, {nil, -1, 1},
	}
}

func TestGetRefuses(t *testing.T) {
	for _, x := range wrongPlaces() {
		if v, ok := word.Get(x.b, x.at, x.size); v != 0 || ok {
			t.Errorf("P1.1: Get(%x, %d, %d) = %#x, %v; want 0, false", x.b, x.at, x.size, v, ok)
		}
	}
}

func TestGetAtEveryPlace(t *testing.T) {
	b := counting(9)
	for n := range len(b) + 1 {
		for at := -3; at <= n+3; at++ {
			for size := -2; size <= 9; size++ {
				var want uint32
				ok := (size == 1 || size == 2 || size == 4) && at >= 0 && at+size <= n
				for i := 0; ok && i < size; i++ {
					want = want*256 + uint32(b[at+i])
				}
				if v, got := word.Get(b[:n], at, size); v != want || got != ok {
					t.Fatalf("P1.1: Get(%x, %d, %d) = %#x, %v; want %#x, %v", b[:n], at, size, v, got, want, ok)
				}
			}
		}
	}
}

func TestPut(t *testing.T) {
	for _, x := range []struct {
		b        []byte
		at, size int
		v        uint32
		want     string
	}{
		{[]byte{0, 0, 0}, 1, 2, 12345, "003039"},
		{[]byte{0}, 0, 1, 511, "ff"},
		{[]byte{9, 9, 9, 9, 9, 9}, 1, 4, 0x01020304, "090102030409"},
		{[]byte{9, 9, 9, 9}, 0, 4, math.MaxUint32, "ffffffff"},
		{[]byte{9, 9, 9, 9}, 0, 4, 0, "00000000"},
		{[]byte{9, 9, 9}, 0, 1, 0xabcdef12, "120909"},
		{[]byte{9, 9, 9}, 2, 1, 0x100, "090900"},
		{[]byte{9, 9, 9}, 0, 2, 0xabcdef12, "ef1209"},
		{[]byte{9, 9, 9}, 1, 2, 0x10000, "090000"},
	} {
		if c, ok := word.Put(x.b, x.at, x.size, x.v); !ok || word.Hex(c) != x.want {
			t.Errorf("P1.2: Put(%x, %d, %d, %#x) = %x, %v; want %s", x.b, x.at, x.size, x.v, c, ok, x.want)
		}
	}
}

func TestPutRefuses(t *testing.T) {
	for _, x := range wrongPlaces() {
		if c, ok := word.Put(x.b, x.at, x.size, 5); len(c) != 0 || ok {
			t.Errorf("P1.2: Put(%x, %d, %d, 5) = %x, %v; want none, false", x.b, x.at, x.size, c, ok)
		}
	}
}

func TestPutLeavesWhatItWasGiven(t *testing.T) {
	for _, size := range []int{1, 2, 4} {
		for at := range 5 - size + 1 {
			b, whole := roomy(1, 2, 3, 4, 5)
			before := slices.Clone(whole)
			c, ok := word.Put(b, at, size, 0xfedcba98)
			scribble(c)
			if !ok || !bytes.Equal(whole, before) {
				t.Errorf("R3: Put at %d, size %d: what was handed in became %x", at, size, whole)
			}
		}
	}
}

func TestSpareRoomIsNoPartOfAList(t *testing.T) {
	b, whole := roomy(1, 2)
	before := slices.Clone(whole)
	for _, x := range [][2]int{{2, 1}, {1, 2}, {0, 4}, {2, 4}} {
		if v, ok := word.Get(b, x[0], x[1]); v != 0 || ok {
			t.Errorf("R3: Get(0102 with spare room, %d, %d) = %#x, %v", x[0], x[1], v, ok)
		}
		if c, ok := word.Put(b, x[0], x[1], 7); len(c) != 0 || ok {
			t.Errorf("R3: Put(0102 with spare room, %d, %d, 7) = %x, %v", x[0], x[1], c, ok)
		}
	}
	put, _ := word.Put(b, 0, 1, 1)
	for _, c := range [][]byte{put, word.Join(b), word.Join(b, b)} {
		if bytes.Contains(c[:cap(c)], []byte{0xa5}) {
			t.Errorf("R3: handed out what lay behind the end: %x", c[:cap(c)])
		}
	}
	if !bytes.Equal(whole, before) {
		t.Errorf("R3: what was handed in became %x", whole)
	}
}

func TestJoin(t *testing.T) {
	for _, x := range []struct {
		parts [][]byte
		want  string
	}{
		{nil, ""},
		{[][]byte{nil}, ""},
		{[][]byte{{}, nil, {}}, ""},
		{[][]byte{{1}, nil, {2, 3}}, "010203"},
		{[][]byte{{2, 3}, {1}}, "020301"},
		{[][]byte{{7}}, "07"},
		{[][]byte{nil, {7}, nil}, "07"},
		{[][]byte{{1, 2}, {1, 2}, {0}, {255}}, "0102010200ff"},
	} {
		if c := word.Join(x.parts...); word.Hex(c) != x.want {
			t.Errorf("P1.3: Join(%x) = %x; want %s", x.parts, c, x.want)
		}
	}
	if c := word.Join(); len(c) != 0 {
		t.Errorf("P1.3: Join() = %x", c)
	}
}

func TestJoinGivesNewMemory(t *testing.T) {
	a, wholeA := roomy(1, 2)
	b, wholeB := roomy(3)
	parts := [][]byte{a, b, nil}
	beforeA, beforeB := slices.Clone(wholeA), slices.Clone(wholeB)
	scribble(word.Join(parts...))
	scribble(word.Join(a))
	scribble(word.Join(a, nil))
	scribble(word.Join(nil, b))
	if !bytes.Equal(wholeA, beforeA) || !bytes.Equal(wholeB, beforeB) {
		t.Errorf("R3: Join's parts became %x, %x", wholeA, wholeB)
	}
	if len(parts) != 3 || len(parts[0]) != 2 || len(parts[1]) != 1 || parts[2] != nil {
		t.Errorf("R3: Join's list became %x", parts)
	}
	first, second := word.Join(a, b), word.Join(a, b)
	scribble(first)
	if word.Hex(second) != "010203" {
		t.Errorf("R3: two answers of Join share memory: %x", second)
	}
}

func TestJoinKeepsNothing(t *testing.T) {
	a := []byte{1, 2}
	c := word.Join(a)
	a[0] = 9
	if word.Hex(c) != "0102" {
		t.Errorf("R3: Join's answer changed with its argument: %x", c)
	}
	b := []byte{1, 2}
	d, _ := word.Put(b, 1, 1, 3)
	b[0] = 9
	if word.Hex(d) != "0103" {
		t.Errorf("R3: Put's answer changed with its argument: %x", d)
	}
}

func TestJoinOfManyParts(t *testing.T) {
	b := counting(1 << 20)
	parts := make([][]byte, len(b))
	for i := range b {
		parts[i] = b[i : i+1]
	}
	if !bytes.Equal(word.Join(parts...), b) {
		t.Error("P1.3: Join of a million bytes, each a part")
	}
}

func TestSum(t *testing.T) {
	const most = api.MaxCount
	for _, x := range []struct {
		xs   []uint32
		want uint32
	}{
		{nil, 0},
		{[]uint32{0}, 0},
		{[]uint32{0, 0, 0}, 0},
		{[]uint32{5}, 5},
		{[]uint32{1, 2, 3}, 6},
		{[]uint32{most}, most},
		{[]uint32{most, 0}, most},
		{[]uint32{most - 1, 1}, most},
		{[]uint32{most - 1, 0}, most - 1},
		{[]uint32{most, 1}, most},
		{[]uint32{1, most}, most},
		{[]uint32{most - 1, 2}, most},
		{[]uint32{most - 1, 1, 1}, most},
		{[]uint32{most, most, most}, most},
		{[]uint32{1 << 31, 1 << 31}, most},
		{[]uint32{1 << 31, 1<<31 - 1}, most},
		{[]uint32{1 << 31, 1<<31 - 2}, most - 1},
		{[]uint32{1 << 31, 1 << 31, 1 << 31, 1 << 31, 7}, most},
	} {
		if got := word.Sum(x.xs...); got != x.want {
			t.Errorf("P1.4: Sum(%d) = %d; want %d", x.xs, got, x.want)
		}
	}
	if got := word.Sum(); got != 0 {
		t.Errorf("P1.4: Sum() = %d", got)
	}
}

func TestSumOfManyStaysAtTheGreatest(t *testing.T) {
	xs := make([]uint32, 1<<20)
	for i := range xs {
		xs[i] = 1 << 12
	}
	if got := word.Sum(xs...); got != api.MaxCount {
		t.Errorf("P1.4: 2^20 times 2^12 = %d", got)
	}
	if got := word.Sum(xs[1:]...); got != api.MaxCount-1<<12+1 {
		t.Errorf("P1.4: 2^12 less = %d", got)
	}
}

func TestSumLeavesWhatItWasGiven(t *testing.T) {
	whole := []uint32{3, 1, api.MaxCount, 2, 77, 78}
	before := slices.Clone(whole)
	if got := word.Sum(whole[:2]...); got != 4 {
		t.Errorf("R3: Sum read behind its list's end: %d", got)
	}
	word.Sum(whole[:4]...)
	if !slices.Equal(whole, before) {
		t.Errorf("R3: Sum changed its list: %d", whole)
	}
}

// orders gives every order of xs to each.
func orders(xs []uint32, k int, each func([]uint32)) {
	if k == len(xs) {
		each(xs)
	}
	for i := k; i < len(xs); i++ {
		xs[k], xs[i] = xs[i], xs[k]
		orders(xs, k+1, each)
		xs[k], xs[i] = xs[i], xs[k]
	}
}

func TestSumInAnyOrder(t *testing.T) {
	for _, xs := range [][]uint32{
		{1, 2, 3, 4, 5},
		{api.MaxCount, 1, 0, 2, api.MaxCount},
		{1 << 31, 1 << 31, 1, 0, api.MaxCount - 1},
		{api.MaxCount - 10, 1, 2, 3, 4},
		{api.MaxCount - 10, 1, 2, 3, 5},
	} {
		want := word.Sum(xs...)
		orders(xs, 0, func(ys []uint32) {
			if got := word.Sum(ys...); got != want {
				t.Errorf("P1.6: Sum(%d) = %d; in another order %d", ys, got, want)
			}
		})
	}
}

func TestHex(t *testing.T) {
	for _, x := range []struct {
		b    []byte
		want string
	}{
		{nil, ""},
		{[]byte{}, ""},
		{[]byte{0}, "00"},
		{[]byte{0x0f, 0xf0}, "0ff0"},
		{[]byte{0x00, 0xff, 0x1a}, "00ff1a"},
		{[]byte{0x01, 0x23, 0x45, 0x67, 0x89, 0xab, 0xcd, 0xef}, "0123456789abcdef"},
	} {
		if s := word.Hex(x.b); s != x.want {
			t.Errorf("P1.5: Hex(%v) = %q; want %q", x.b, s, x.want)
		}
	}
	b, whole := roomy(1, 2)
	before := slices.Clone(whole)
	if s := word.Hex(b); s != "0102" || !bytes.Equal(whole, before) {
		t.Errorf("R3: Hex(0102 with spare room) = %q; its argument became %x", s, whole)
	}
}

func TestUnhex(t *testing.T) {
	for _, x := range []struct {
		s    string
		want []byte
	}{
		{"", nil},
		{"00", []byte{0}},
		{"00ff", []byte{0, 255}},
		{"0123456789abcdef", []byte{0x01, 0x23, 0x45, 0x67, 0x89, 0xab, 0xcd, 0xef}},
	} {
		if b, ok := word.Unhex(x.s); !ok || !bytes.Equal(b, x.want) {
			t.Errorf("P1.5: Unhex(%q) = %x, %v; want %x, true", x.s, b, ok, x.want)
		}
	}
	first, _ := word.Unhex("0102")
	second, _ := word.Unhex("0102")
	scribble(first)
	if word.Hex(second) != "0102" {
		t.Errorf("R3: two answers of Unhex share memory: %x", second)
	}
}

func TestUnhexRefuses(t *testing.T) {
	for _, s := range []string{
		"0", "f", "000", "00f", "0g", "g0", "0F", "F0", "AB", "aB", "00FF",
		" 00", "00 ", "0 ", " 0", "0x00", "-1", "+1", "00\n0", "\x00\x00", "é", "éé", "\xff\xff", "００",
		"0000zz", "zz0000", "00zz00",
	} {
		if b, ok := word.Unhex(s); len(b) != 0 || ok {
			t.Errorf("P1.5: Unhex(%q) = %x, %v; want none, false", s, b, ok)
		}
	}
}

func TestUnhexOfEveryPairOfBytes(t *testing.T) {
	const digits = "0123456789abcdef"
	for high := range 256 {
		for low := range 256 {
			s := string([]byte{byte(high), byte(low)})
			h, l := strings.IndexByte(digits, byte(high)), strings.IndexByte(digits, byte(low))
			b, ok := word.Unhex(s)
			if h < 0 || l < 0 {
				if ok || len(b) != 0 {
					t.Fatalf("P1.5: Unhex(%q) = %x, %v", s, b, ok)
				}
				continue
			}
			if !ok || len(b) != 1 || int(b[0]) != h*16+l {
				t.Fatalf("P1.5: Unhex(%q) = %x, %v", s, b, ok)
			}
			if back := word.Hex(b); back != s {
				t.Fatalf("P1.6: Hex of Unhex(%q) = %q", s, back)
			}
		}
	}
}

func TestGetOfPut(t *testing.T) {
	b := counting(7)
	for _, v := range []uint32{0, 1, 0x7f, 0x80, 0xff, 0x100, 0x1ff, 0x8000, 0xffff, 0x10000, 0x01020304, 0x80000000, 0xfedcba98, math.MaxUint32} {
		for size, low := range map[int]uint32{1: 0xff, 2: 0xffff, 4: math.MaxUint32} {
			for at := range len(b) - size + 1 {
				c, ok := word.Put(b, at, size, v)
				if !ok || len(c) != len(b) {
					t.Fatalf("P1.2: Put(%x, %d, %d, %#x) = %x, %v", b, at, size, v, c, ok)
				}
				if got, ok := word.Get(c, at, size); !ok || got != v&low {
					t.Errorf("P1.6: Get of Put(%x, %d, %d, %#x) = %#x, %v", b, at, size, v, got, ok)
				}
				if !bytes.Equal(c[:at], b[:at]) || !bytes.Equal(c[at+size:], b[at+size:]) {
					t.Errorf("P1.6: Put(%x, %d, %d, %#x) changed other bytes: %x", b, at, size, v, c)
				}
			}
		}
	}
}

func TestPutOfGet(t *testing.T) {
	b := counting(7)
	for _, size := range []int{1, 2, 4} {
		for at := range len(b) - size + 1 {
			v, _ := word.Get(b, at, size)
			if c, ok := word.Put(b, at, size, v); !ok || !bytes.Equal(c, b) {
				t.Errorf("P1.6: Put of Get at %d, size %d = %x, %v; want %x", at, size, c, ok, b)
			}
		}
	}
}

func TestUnhexOfHex(t *testing.T) {
	for _, n := range []int{0, 1, 2, 3, 255, 256, 257, api.MaxFrame, api.MaxText} {
		b := counting(n)
		if c, ok := word.Unhex(word.Hex(b)); !ok || !bytes.Equal(c, b) {
			t.Errorf("P1.6: Unhex of Hex of %d bytes: %d bytes, %v", n, len(c), ok)
		}
	}
}
