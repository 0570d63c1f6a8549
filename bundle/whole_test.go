package bundle_test

import (
	"bytes"
	"math/rand"
	"slices"
	"testing"

	"riddle/api"
	"riddle/bundle"
	"riddle/frame"
)

// come is a piece that was taken.
type come struct {
	begin, end bool
	seq        uint32
	chunk      []byte
}

// gatheredOf tells once more what is gathered of the pieces that have come, by looking back from the last one: the load so far, whether there is one, and whether it is whole.
func gatheredOf(l api.Link, pieces []come) (load []byte, some, whole bool) {
	from := len(pieces) - 1
	for ; !pieces[from].begin; from-- {
		if from == 0 || pieces[from-1].end || (pieces[from-1].seq+1)%spaceOf(l) != pieces[from].seq {
			return nil, false, false
		}
	}
	for _, p := range pieces[from:] {
		load = append(load, p.chunk...)
	}
	if len(load) > 65535 {
		return nil, false, false
	}
	return load, true, pieces[len(pieces)-1].end
}

// anyPiece tells a piece that is near to what is waited for.
func anyPiece(r *rand.Rand, l api.Link, next uint32) come {
	p := come{begin: r.Intn(3) == 0, end: r.Intn(3) == 0, seq: next}
	if r.Intn(6) == 0 {
		p.seq = (next + spaceOf(l) + uint32(r.Intn(7)) - 3) % spaceOf(l)
	}
	size := []int{0, 1, 2, 5, 300}[r.Intn(5)]
	if r.Intn(8) == 0 {
		size = []int{32767, 32768, 65000, 65527}[r.Intn(4)]
	}
	p.chunk = make([]byte, size)
	r.Read(p.chunk)
	return p
}

func TestAgainstAnotherReckoning(t *testing.T) {
	r := rand.New(rand.NewSource(91))
	loads, empty, lost := 0, 0, 0
	for range 400 {
		l := multilinks()[r.Intn(8)]
		next := spaceOf(l) - uint32(1+r.Intn(20))
		u := fresh(t, l, next)
		var pieces []come
		for range 40 {
			p := anyPiece(r, l, next)
			pieces = append(pieces, p)
			next = (p.seq + 1) % spaceOf(l)
			load, some, whole := gatheredOf(l, pieces)
			flags := map[bool]int{true: begins}[p.begin] | map[bool]int{true: ends}[p.end]
			frame := piece(t, l, flags, p.seq, p.chunk...)
			switch {
			case whole:
				tells(t, u, frame, load, next)
				loads++
			case some:
				gathers(t, u, frame, next, len(load))
			default:
				gathers(t, u, frame, next, 0)
				lost++
			}
			if whole && len(load) == 0 {
				empty++
			}
		}
	}
	if min(loads, lost) < 2000 || empty < 100 {
		t.Errorf("only %d loads, %d of them empty, %d pieces lost", loads, empty, lost)
	}
}

// TestAnyBytes has bytes near to pieces: a frame that frame takes as a piece is taken here, with no other error than frame's.
func TestAnyBytes(t *testing.T) {
	r := rand.New(rand.NewSource(92))
	heads := [][]byte{{0xff, 3, 0, 0x3d}, {0xff, 3, 0x3d}, {0, 0x3d}, {0x3d}, {0xff, 3, 0xc0, 0x21}, {0xff}, {}}
	taken := 0
	for range 200000 {
		l := multilinks()[r.Intn(8)]
		b := slices.Clone(heads[r.Intn(len(heads))])
		for range r.Intn(7) {
			b = append(b, []byte{0, 0x40, 0x80, 0xc0, 0x0f, 0x10, 0x21, byte(r.Intn(256))}[r.Intn(8)])
		}
		u, _ := bundle.New(l, 5)
		_, _, e := u.Feed(b)
		next, _ := u.Waits()
		// Of a piece with Begin frame looks for more: without, its errors are those of the steps 1 to 4.
		plain := slices.Clone(b)
		if at := bytes.IndexByte(b, 0x3d) + 1; at > 0 && at < len(b) {
			plain[at] &^= 0x80
		}
		v, want := frame.Look(l, plain)
		if want == api.OK && !v.Multi || isNet(l, plain) {
			want = api.ErrBundlePiece
		}
		if e != want || e == api.OK && next != (v.Seq+1)%spaceOf(l) || e != api.OK && next != 5 {
			t.Fatalf("P9.3: Feed(%x) on %+v: error %d, waits for %d; want error %d", b, l, e, next, want)
		}
		if e == api.OK {
			taken++
		}
	}
	if taken < 10000 {
		t.Errorf("only %d pieces", taken)
	}
}

// isNet tells whether a frame's first protocol field says IP or IP6, so that frame looks for a header.
func isNet(l api.Link, b []byte) bool {
	if bytes.HasPrefix(b, []byte{0xff, 3}) {
		b = b[2:]
	} else if !l.ACFC {
		return false
	}
	if l.PFC && len(b) > 0 && (b[0] == 0x21 || b[0] == 0x57) {
		return true
	}
	return len(b) > 1 && b[0] == 0 && (b[1] == 0x21 || b[1] == 0x57)
}

// parted is loads that were split one behind the other, with their pieces in a row.
type parted struct {
	loads  [][]byte
	pieces [][]byte
	ends   map[int]int // the load that ends at a piece
}

// part splits loads one behind the other, until there are so many pieces.
func part(t *testing.T, r *rand.Rand, l api.Link, first uint32, count int) parted {
	t.Helper()
	out := parted{ends: map[int]int{}}
	for len(out.pieces) < count {
		most := 1 + r.Intn(5)
		load := make([]byte, min(r.Intn(20), most*(count-len(out.pieces))))
		r.Read(load)
		if len(load) > 0 && r.Intn(4) == 0 {
			// All alike, so that pieces of other loads would fit in.
			load = bytes.Repeat([]byte{7}, len(load))
		}
		pieces, e := bundle.Split(l, load, most, (first+uint32(len(out.pieces)))%spaceOf(l))
		if e != api.OK {
			t.Fatalf("P9.1: Split(%+v, %x, %d, ..): error %d", l, load, most, e)
		}
		out.loads = append(out.loads, load)
		out.pieces = append(out.pieces, pieces...)
		out.ends[len(out.pieces)-1] = len(out.loads) - 1
	}
	return out
}

func TestInOrder(t *testing.T) {
	r := rand.New(rand.NewSource(93))
	for range 40 {
		for _, l := range multilinks() {
			first := (spaceOf(l) - uint32(r.Intn(300))) % spaceOf(l)
			all := part(t, r, l, first, 500)
			u := fresh(t, l, first)
			for at, b := range all.pieces {
				load, whole, e := u.Feed(b)
				which, last := all.ends[at]
				if e != api.OK || whole != last || last && !bytes.Equal(load, all.loads[which]) || !last && len(load) != 0 {
					t.Fatalf("P9.5: piece %d of %d, %x: %x, %v, %d", at, len(all.pieces), b, load, whole, e)
				}
			}
			waits(t, u, (first+uint32(len(all.pieces)))%spaceOf(l), 0)
		}
	}
}

// TestGreatestInOrder has the greatest loads, in few pieces and in as many as there may be.
func TestGreatestInOrder(t *testing.T) {
	for _, l := range multilinks() {
		u := fresh(t, l, 4000)
		first := uint32(4000)
		for _, most := range []int{16, 17, 1000, 32767, 32768, 65526, 65527} {
			load := counted(65535)
			pieces, e := bundle.Split(l, load, most, first)
			if e != api.OK {
				t.Fatalf("P9.1: Split: error %d", e)
			}
			for at, b := range pieces[:len(pieces)-1] {
				gathers(t, u, b, (first+uint32(at)+1)%spaceOf(l), (at+1)*most)
			}
			first = (first + uint32(len(pieces))) % spaceOf(l)
			tells(t, u, pieces[len(pieces)-1], load, first)
		}
	}
}

// mixed tells places in a row of so many pieces, in which some are left out, doubled, or exchanged.
func mixed(r *rand.Rand, count int) []int {
	var out []int
	often := []int{3, 10, 40, 200}[r.Intn(4)]
	for at := range count {
		switch r.Intn(3 * often) {
		case 0:
		case 1:
			out = append(out, at, at)
		case 2:
			out = append(out, r.Intn(count), at)
		default:
			out = append(out, at)
		}
	}
	for range count / often {
		if at := r.Intn(len(out) - 4); r.Intn(2) == 0 {
			by := 1 + r.Intn(3)
			out[at], out[at+by] = out[at+by], out[at]
		}
	}
	return out
}

// TestMixed has all pieces that a space has numbers for, and rows of them that come around twice.
func TestMixed(t *testing.T) {
	r := rand.New(rand.NewSource(94))
	came, spoilt := 0, 0
	for round := range 60 {
		l := multilinks()[round%8]
		first := (spaceOf(l) - uint32(r.Intn(3000))) % spaceOf(l)
		all := part(t, r, l, first, []int{4096, 4096, 900, 30}[r.Intn(4)])
		u := fresh(t, l, first)
		row := append(mixed(r, len(all.pieces)), mixed(r, len(all.pieces))...)
		if round%5 == 4 {
			r.Shuffle(len(row), func(i, j int) { row[i], row[j] = row[j], row[i] })
		}
		for _, at := range row {
			load, whole, e := u.Feed(all.pieces[at])
			which, last := all.ends[at]
			switch {
			case e != api.OK || !whole && len(load) != 0:
				t.Fatalf("P9.5: Feed(%x) = %x, %v, %d", all.pieces[at], load, whole, e)
			case whole && (!last || !bytes.Equal(load, all.loads[which])):
				t.Fatalf("P9.5: %x came out, which was not split so", load)
			case whole:
				came++
			case last:
				spoilt++
			}
		}
	}
	if min(came, spoilt) < 5000 {
		t.Errorf("only %d loads came out, and %d did not", came, spoilt)
	}
}

// TestSpaceOfLoads has as many pieces as the space has numbers: the last one's successor is the first one.
func TestSpaceOfLoads(t *testing.T) {
	l := link("--1")
	var pieces [][]byte
	for at := range uint32(2048) {
		two, _ := bundle.Split(l, []byte{byte(at >> 8), byte(at)}, 1, (5+2*at)%4096)
		pieces = append(pieces, two...)
	}
	u := fresh(t, l, 5)
	for round := range 3 {
		for at, b := range pieces {
			load, whole, e := u.Feed(b)
			if e != api.OK || whole != (at%2 == 1) || whole && !bytes.Equal(load, []byte{byte(at >> 9), byte(at >> 1)}) {
				t.Fatalf("P9.5: round %d, piece %d: %x, %v, %d", round, at, load, whole, e)
			}
		}
	}
	gathers(t, u, pieces[4094], 4, 1)
	gathers(t, u, pieces[0], 6, 1)
	gathers(t, u, pieces[4095], 5, 0)
}

// TestFeedMemory writes into pieces once they are fed, and into loads that came out.
func TestFeedMemory(t *testing.T) {
	for _, l := range multilinks() {
		u := fresh(t, l, 0)
		var loads, copies [][]byte
		for at := range uint32(50) {
			whole := bytes.Repeat([]byte{0xa5}, 100)
			b := append(whole[:0], piece(t, l, []int{begins, ends}[at%2], at, byte(at), byte(at+1))...)
			kept := slices.Clone(whole)
			load, ok, e := u.Feed(b)
			if e != api.OK || ok != (at%2 == 1) {
				t.Fatalf("P9.3: Feed(%x) = %x, %v, %d", b, load, ok, e)
			}
			if !bytes.Equal(whole, kept) {
				t.Fatalf("R3: what was handed in became %x; it was %x", whole, kept)
			}
			clear(whole)
			if !ok {
				continue
			}
			if want := []byte{byte(at - 1), byte(at), byte(at), byte(at + 1)}; !bytes.Equal(load, want) {
				t.Fatalf("R3: the load is %x, once the pieces were written into; want %x", load, want)
			}
			loads, copies = append(loads, load), append(copies, slices.Clone(load))
		}
		for at, load := range loads {
			if !bytes.Equal(load, copies[at]) {
				t.Fatalf("R3: a load became %x by later calls; it was %x", load, copies[at])
			}
			for i := range load[:cap(load)] {
				load[:cap(load)][i] = 0xee
			}
			_ = append(load, 0xdd)
		}
		gathers(t, u, piece(t, l, begins, 50, 1), 51, 1)
		tells(t, u, piece(t, l, ends, 51, 2), []byte{1, 2}, 52)
	}
}

// TestWritingIntoLoad has a load written into while the next one is gathered.
func TestWritingIntoLoad(t *testing.T) {
	l := link("AP2")
	u := fresh(t, l, 0)
	load, _, _ := u.Feed(piece(t, l, beginEnd, 0, 1, 2, 3, 4))
	gathers(t, u, piece(t, l, begins, 1, 5, 6), 2, 2)
	for at := range load[:cap(load)] {
		load[:cap(load)][at] = 0xee
	}
	tells(t, u, piece(t, l, ends, 2, 7), []byte{5, 6, 7}, 3)
	if behind := load[len(load):cap(load)]; bytes.ContainsAny(behind, "\x05\x06\x07") {
		t.Errorf("R3: a load has the next one behind its end: %x", behind)
	}
}

// TestNothingBehindTheEnd has a short load behind a long one: nothing of the long one is handed out with it.
func TestNothingBehindTheEnd(t *testing.T) {
	l := link("--1")
	u := fresh(t, l, 0)
	long := bytes.Repeat([]byte{0xa5}, 500)
	tells(t, u, piece(t, l, beginEnd, 0, long...), long, 1)
	load, ok, e := u.Feed(piece(t, l, beginEnd, 1, 1))
	if !ok || e != api.OK || bytes.Contains(load[:cap(load)], []byte{0xa5}) {
		t.Errorf("R3: behind the load lies %x", load[:cap(load)])
	}
}

func BenchmarkFeed(b *testing.B) {
	l := api.Link{MP: api.MultiShort}
	pieces, _ := bundle.Split(l, make([]byte, 65535), 16, 0)
	u, _ := bundle.New(l, 0)
	for b.Loop() {
		for _, p := range pieces {
			u.Feed(p)
		}
	}
}
