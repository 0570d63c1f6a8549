package bundle_test

import (
	"bytes"
	"math"
	"testing"

	"riddle/api"
	"riddle/bundle"
	"riddle/word"
)

// fresh tells a bundle that waits for next.
func fresh(t *testing.T, l api.Link, next uint32) *bundle.Bundle {
	t.Helper()
	u, e := bundle.New(l, next)
	if e != api.OK || u == nil {
		t.Fatalf("P9.2: New(%+v, %d) = %v, %d", l, next, u, e)
	}
	waits(t, u, next, 0)
	return u
}

// waits holds what a bundle waits for, and how much it has gathered.
func waits(t *testing.T, u *bundle.Bundle, next uint32, gathered int) {
	t.Helper()
	if n, count := u.Waits(); n != next || count != gathered {
		t.Fatalf("P9.4: Waits() = %d, %d; want %d, %d", n, count, next, gathered)
	}
}

// gathers holds that a piece is taken, and that no load comes out.
func gathers(t *testing.T, u *bundle.Bundle, b []byte, next uint32, gathered int) {
	t.Helper()
	if load, whole, e := u.Feed(b); len(load) != 0 || whole || e != api.OK {
		t.Fatalf("P9.3: Feed(%.40x) = %.40x, %v, %d; want no load", b, load, whole, e)
	}
	waits(t, u, next, gathered)
}

// tells holds that a load comes out.
func tells(t *testing.T, u *bundle.Bundle, b []byte, want []byte, next uint32) {
	t.Helper()
	if load, whole, e := u.Feed(b); !bytes.Equal(load, want) || !whole || e != api.OK {
		t.Fatalf("P9.3: Feed(%.40x) = %d bytes, %.40x, %v, %d; want %d bytes, %.40x", b, len(load), load, whole, e, len(want), want)
	}
	waits(t, u, next, 0)
}

// fails holds that a frame is refused, and changes nothing.
func fails(t *testing.T, u *bundle.Bundle, b []byte, want api.Errno) {
	t.Helper()
	next, gathered := u.Waits()
	if load, whole, e := u.Feed(b); len(load) != 0 || whole || e != want {
		t.Fatalf("P9.3: Feed(%.40x) = %.40x, %v, %d; want error %d", b, load, whole, e, want)
	}
	waits(t, u, next, gathered)
}

const (
	none     = 0
	ends     = 1
	begins   = 2
	beginEnd = 3
)

// piece tells a piece with the flags, which are begins and ends.
func piece(t *testing.T, l api.Link, flags int, seq uint32, chunk ...byte) []byte {
	t.Helper()
	return list(t, pieceText(l, flags&begins != 0, flags&ends != 0, seq, chunk))
}

func TestFeedExamples(t *testing.T) {
	u := fresh(t, link("--1"), 4095)
	gathers(t, u, list(t, "ff 03 00 3d 8f ff 01 02"), 0, 2)
	tells(t, u, list(t, "ff 03 00 3d 40 00 03"), []byte{1, 2, 3}, 1)
	u = fresh(t, link("--1"), 4095)
	gathers(t, u, list(t, "ff 03 00 3d 40 00 03"), 1, 0)
	fails(t, u, list(t, "ff 03 c0 21"), api.ErrBundlePiece)
}

func TestNew(t *testing.T) {
	for _, l := range noMultilinks() {
		for _, next := range []uint32{0, 1, 4095, 4096, 1 << 24, math.MaxUint32} {
			if u, e := bundle.New(l, next); u != nil || e != api.ErrBundleLink {
				t.Errorf("P9.2: New(%+v, %d) = %v, %d", l, next, u, e)
			}
		}
	}
	for _, l := range multilinks() {
		space := spaceOf(l)
		for _, next := range []uint32{space, space + 1, 2 * space, 1 << 24, 1<<24 + 1, 1 << 31, math.MaxUint32} {
			if u, e := bundle.New(l, next); u != nil || e != api.ErrBundleSize {
				t.Errorf("P9.2: New(%+v, %d) = %v, %d", l, next, u, e)
			}
		}
		for _, next := range []uint32{0, 1, 2048, 4095, space - 2, space - 1} {
			u := fresh(t, l, next)
			gathers(t, u, piece(t, l, none, next, 9), (next+1)%space, 0)
			u = fresh(t, l, next)
			gathers(t, u, piece(t, l, ends, next, 9), (next+1)%space, 0)
		}
	}
}

// broken has frames that the steps refuse, and such that are no pieces, with their errors; on a link of which the text says what it has.
func broken(t *testing.T) map[string][]struct {
	frame []byte
	e     api.Errno
} {
	type row = struct {
		frame []byte
		e     api.Errno
	}
	long := func(s string) []byte { return word.Join(list(t, s), make([]byte, 65536-len(list(t, s)))) }
	of := func(s string, e api.Errno) row { return row{list(t, s), e} }
	return map[string][]row{
		"--1": {
			{long("ff 03 00 3d 40 05"), api.ErrFrameLong}, {long(""), api.ErrFrameLong}, {make([]byte, 1<<17), api.ErrFrameLong},
			of("", api.ErrFrameShort), of("ff", api.ErrFrameShort), of("00", api.ErrFrameShort), of("ff 04", api.ErrFrameAddress), of("fe 03 00 3d 40 05", api.ErrFrameAddress), of("00 3d 40 05", api.ErrFrameAddress), of("3d 40 05", api.ErrFrameAddress),
			of("ff 03", api.ErrFrameShort), of("ff 03 3d 40 05", api.ErrFrameProto), of("ff 03 00", api.ErrFrameShort), of("ff 03 00 3c 40 05", api.ErrFrameProto),
			of("ff 03 00 3d", api.ErrFrameShort), of("ff 03 00 3d 40", api.ErrFrameShort), of("ff 03 00 3d f0", api.ErrFrameShort),
			of("ff 03 00 3d 50 05", api.ErrFrameMulti), of("ff 03 00 3d 60 05 01", api.ErrFrameMulti), of("ff 03 00 3d b0 05", api.ErrFrameMulti), of("ff 03 00 3d ff ff", api.ErrFrameMulti),
			of("ff 03 c0 21", api.ErrBundlePiece), of("ff 03 00 21", api.ErrBundlePiece), of("ff 03 00 57 60", api.ErrBundlePiece), of("ff 03 02 3d 40 05", api.ErrBundlePiece), of("ff 03 00 3f 40 05", api.ErrBundlePiece), of("ff 03 3c 3d 40 05", api.ErrBundlePiece),
		},
		"A-1": {
			{long("00 3d 40 05"), api.ErrFrameLong}, of("", api.ErrFrameShort), of("ff", api.ErrFrameProto), of("00", api.ErrFrameShort), of("3d 40 05", api.ErrFrameProto), of("ff 04", api.ErrFrameProto), of("00 3d 40", api.ErrFrameShort), of("00 3d 50 05", api.ErrFrameMulti),
			of("c0 21", api.ErrBundlePiece), of("ff 03 c0 21", api.ErrBundlePiece), of("00 21 00", api.ErrBundlePiece),
		},
		"-P1": {
			of("ff 03", api.ErrFrameShort), of("3d 40 05", api.ErrFrameAddress), of("ff 03 3d", api.ErrFrameShort), of("ff 03 3d 40", api.ErrFrameShort), of("ff 03 3d 50 05", api.ErrFrameMulti), of("ff 03 21", api.ErrBundlePiece), of("ff 03 ff 3d 40 05", api.ErrBundlePiece),
		},
		"AP1": {
			of("", api.ErrFrameShort), of("3d", api.ErrFrameShort), of("3d 40", api.ErrFrameShort), of("3d 60 05", api.ErrFrameMulti), of("00 3c 40 05", api.ErrFrameProto), of("21 45", api.ErrBundlePiece), of("ff", api.ErrBundlePiece), of("ff 3d 40 05", api.ErrBundlePiece), of("ff 03", api.ErrFrameShort),
		},
		"--2": {
			{long("ff 03 00 3d 40 00 00 05"), api.ErrFrameLong}, of("ff 03 00 3d 40 00 00", api.ErrFrameShort), of("ff 03 00 3d 40 05", api.ErrFrameShort), of("ff 03 00 3d", api.ErrFrameShort),
			of("ff 03 00 3d 41 00 00 05", api.ErrFrameMulti), of("ff 03 00 3d 42 00 00 05", api.ErrFrameMulti), of("ff 03 00 3d 44 00 00 05", api.ErrFrameMulti), of("ff 03 00 3d 48 00 00 05", api.ErrFrameMulti), of("ff 03 00 3d 50 00 00 05", api.ErrFrameMulti), of("ff 03 00 3d e0 00 00 05 09", api.ErrFrameMulti),
			of("ff 03 c0 21", api.ErrBundlePiece), of("ff 03 01 3d 40 00 00 05", api.ErrFrameProto),
		},
		"AP2": {
			of("3d 40 00 05", api.ErrFrameShort), of("3d 7f 00 00 05", api.ErrFrameMulti), of("c0 21 40 00 00 05", api.ErrBundlePiece), of("c0 20", api.ErrFrameProto),
		},
	}
}

// TestErrors has each of these frames within a load, ahead of one, and behind one: the loads come out as if it had not been there.
func TestErrors(t *testing.T) {
	for name, rows := range broken(t) {
		l := link(name)
		for _, x := range rows {
			u := fresh(t, l, 3)
			fails(t, u, x.frame, x.e)
			gathers(t, u, piece(t, l, begins, 3, 1), 4, 1)
			fails(t, u, x.frame, x.e)
			gathers(t, u, piece(t, l, none, 4, 2), 5, 2)
			fails(t, u, x.frame, x.e)
			tells(t, u, piece(t, l, ends, 5, 3), []byte{1, 2, 3}, 6)
			fails(t, u, x.frame, x.e)
			tells(t, u, piece(t, l, beginEnd, 6, 4), []byte{4}, 7)
		}
	}
}

// TestFields has pieces with the fields that a link lets be.
func TestFields(t *testing.T) {
	for _, x := range []struct{ link, head string }{
		{"--1", "ff 03 00 3d"}, {"A-1", "ff 03 00 3d"}, {"A-1", "00 3d"}, {"-P1", "ff 03 00 3d"}, {"-P1", "ff 03 3d"}, {"AP1", "ff 03 00 3d"}, {"AP1", "ff 03 3d"}, {"AP1", "00 3d"}, {"AP1", "3d"},
	} {
		u := fresh(t, link(x.link), 4095)
		gathers(t, u, list(t, x.head+"8f ff 01 02 03"), 0, 3)
		gathers(t, u, list(t, x.head+"00 00 04"), 1, 4)
		tells(t, u, list(t, x.head+"40 01 05"), []byte{1, 2, 3, 4, 5}, 2)
		tells(t, u, list(t, x.head+"c0 02"), nil, 3)
		u = fresh(t, link(x.link[:2]+"2"), 1<<24-1)
		gathers(t, u, list(t, x.head+"80 ff ff ff 01 02 03"), 0, 3)
		gathers(t, u, list(t, x.head+"00 00 00 00 04"), 1, 4)
		tells(t, u, list(t, x.head+"40 00 00 01 05"), []byte{1, 2, 3, 4, 5}, 2)
		tells(t, u, list(t, x.head+"c0 00 00 02"), nil, 3)
	}
}

// TestChunkIsAnyBytes has chunks that are no protocol field, or that look like the head of a piece.
func TestChunkIsAnyBytes(t *testing.T) {
	for _, l := range multilinks() {
		for _, text := range []string{"", "00", "02 02", "c0", "21", "3d", "00 3d", "00 21", "00 21 45", "00 57", "ff 03 00 3d 80 05 00", "fe fe fe fe"} {
			chunk := list(t, text)
			u := fresh(t, l, 5)
			tells(t, u, piece(t, l, beginEnd, 5, chunk...), chunk, 6)
			gathers(t, u, piece(t, l, begins, 6, chunk...), 7, len(chunk))
			gathers(t, u, piece(t, l, none, 7, chunk...), 8, 2*len(chunk))
			tells(t, u, piece(t, l, ends, 8, chunk...), bytes.Repeat(chunk, 3), 9)
		}
	}
}

// TestOtherNumbers has pieces with a number that is not waited for, ahead and behind, with all flags, while a load is gathered and while none is.
func TestOtherNumbers(t *testing.T) {
	for _, l := range multilinks() {
		space := spaceOf(l)
		for _, waited := range []uint32{0, 1, 10, 2047, space - 2, space - 1} {
			for _, by := range []uint32{1, 2, 3, 9, 256, space / 2, space - 9, space - 2, space - 1} {
				other := (waited + by) % space
				behind := (other + 1) % space
				for flags := none; flags <= beginEnd; flags++ {
					for _, gathered := range []bool{false, true} {
						u := fresh(t, l, waited)
						if gathered {
							u = fresh(t, l, (waited+space-1)%space)
							gathers(t, u, piece(t, l, begins, (waited+space-1)%space, 1, 2, 3), waited, 3)
						}
						p := piece(t, l, flags, other, 7, 8)
						switch flags {
						case beginEnd:
							tells(t, u, p, []byte{7, 8}, behind)
						case begins:
							gathers(t, u, p, behind, 2)
							tells(t, u, piece(t, l, ends, behind, 9), []byte{7, 8, 9}, (behind+1)%space)
						default:
							gathers(t, u, p, behind, 0)
							gathers(t, u, piece(t, l, ends, behind, 9), (behind+1)%space, 0)
						}
					}
				}
			}
		}
	}
}

// TestForgottenStaysSo has the number that was waited for, come too late: what was gathered ahead does not come back.
func TestForgottenStaysSo(t *testing.T) {
	l := link("--1")
	u := fresh(t, l, 0)
	gathers(t, u, piece(t, l, begins, 0, 1), 1, 1)
	gathers(t, u, piece(t, l, ends, 2, 3), 3, 0)
	gathers(t, u, piece(t, l, none, 1, 2), 2, 0)
	gathers(t, u, piece(t, l, ends, 2, 3), 3, 0)
	gathers(t, u, piece(t, l, begins, 0, 1), 1, 1)
	gathers(t, u, piece(t, l, begins, 0, 1), 1, 1)
	gathers(t, u, piece(t, l, none, 1, 2), 2, 2)
	gathers(t, u, piece(t, l, none, 1, 2), 2, 0)
	gathers(t, u, piece(t, l, ends, 2, 3), 3, 0)
}

// TestWithoutBegin has pieces in order while no load is gathered: at first, behind a load, behind one that was forgotten.
func TestWithoutBegin(t *testing.T) {
	for _, l := range multilinks() {
		u := fresh(t, l, 0)
		gathers(t, u, piece(t, l, none, 0, 1), 1, 0)
		gathers(t, u, piece(t, l, ends, 1, 1), 2, 0)
		tells(t, u, piece(t, l, beginEnd, 2, 7), []byte{7}, 3)
		gathers(t, u, piece(t, l, none, 3, 1), 4, 0)
		gathers(t, u, piece(t, l, ends, 4, 2), 5, 0)
		gathers(t, u, piece(t, l, begins, 5), 6, 0)
		gathers(t, u, piece(t, l, none, 6), 7, 0)
		tells(t, u, piece(t, l, ends, 7), nil, 8)
		gathers(t, u, piece(t, l, ends, 8), 9, 0)
	}
}

// TestBeginAnew has a beginning while a load is gathered, in order and not.
func TestBeginAnew(t *testing.T) {
	for _, l := range multilinks() {
		u := fresh(t, l, 0)
		gathers(t, u, piece(t, l, begins, 0, 1, 2), 1, 2)
		gathers(t, u, piece(t, l, none, 1, 3), 2, 3)
		gathers(t, u, piece(t, l, begins, 2, 4), 3, 1)
		tells(t, u, piece(t, l, ends, 3, 5), []byte{4, 5}, 4)
		gathers(t, u, piece(t, l, begins, 4, 6), 5, 1)
		tells(t, u, piece(t, l, beginEnd, 5, 7), []byte{7}, 6)
		gathers(t, u, piece(t, l, ends, 6, 8), 7, 0)
		gathers(t, u, piece(t, l, begins, 7, 6), 8, 1)
		gathers(t, u, piece(t, l, begins, 8), 9, 0)
		tells(t, u, piece(t, l, ends, 9, 9), []byte{9}, 10)
	}
}

// TestTooMuch has loads of just MaxFrame bytes, and of more.
func TestTooMuch(t *testing.T) {
	for _, l := range multilinks() {
		whole := counted(65536)
		for _, at := range []int{0, 9, 32768, 65526} {
			first, second := whole[:at], whole[at:]
			for _, size := range []int{65526 - at, 65535 - at, 65536 - at} {
				if size < 0 || 4+2*l.MP+max(size, at) > 65535 {
					continue
				}
				u := fresh(t, l, 8)
				gathers(t, u, piece(t, l, begins, 8, first...), 9, at)
				if at+size > 65535 {
					gathers(t, u, piece(t, l, ends, 9, second[:size]...), 10, 0)
				} else {
					tells(t, u, piece(t, l, ends, 9, second[:size]...), whole[:at+size], 10)
				}
			}
		}
		u := fresh(t, l, 8)
		gathers(t, u, piece(t, l, begins, 8, whole[:65500]...), 9, 65500)
		gathers(t, u, piece(t, l, none, 9, whole[65500:65535]...), 10, 65535)
		gathers(t, u, piece(t, l, none, 10), 11, 65535)
		tells(t, u, piece(t, l, ends, 11), whole[:65535], 12)
		gathers(t, u, piece(t, l, begins, 12, whole[:65500]...), 13, 65500)
		gathers(t, u, piece(t, l, none, 13, whole[65500:]...), 14, 0)
		gathers(t, u, piece(t, l, none, 14, 1), 15, 0)
		gathers(t, u, piece(t, l, ends, 15, 2), 16, 0)
		gathers(t, u, piece(t, l, begins, 16, 3), 17, 1)
		tells(t, u, piece(t, l, ends, 17, 4), []byte{3, 4}, 18)
	}
}

// TestSideBySide has two bundles whose loads come by turns.
func TestSideBySide(t *testing.T) {
	short, long := link("--1"), link("AP2")
	u, v, w := fresh(t, short, 7), fresh(t, long, 4096), fresh(t, short, 7)
	gathers(t, u, piece(t, short, begins, 7, 1), 8, 1)
	waits(t, v, 4096, 0)
	gathers(t, v, piece(t, long, begins, 4096, 2, 3), 4097, 2)
	gathers(t, w, piece(t, short, begins, 7, 4, 5, 6), 8, 3)
	waits(t, u, 8, 1)
	tells(t, u, piece(t, short, ends, 8, 7), []byte{1, 7}, 9)
	tells(t, v, piece(t, long, ends, 4097, 8), []byte{2, 3, 8}, 4098)
	tells(t, w, piece(t, short, ends, 8, 9), []byte{4, 5, 6, 9}, 9)
}
