package forge_test

import (
	"bytes"
	"math/rand"
	"slices"
	"strconv"
	"strings"
	"testing"

	"riddle/api"
	"riddle/forge"
	"riddle/frame"
	"riddle/word"
)

// isRight is what a spec may be once more, asked in another way: what is right of each kind of frame.
func isRight(l api.Link, s api.Spec) bool {
	none := [16]byte{}
	noPorts := !s.Ports && s.From == 0 && s.To == 0
	bare := noPorts && s.Next == 0 && s.Src == none && s.Dst == none
	if !l.ACFC && !s.Wide {
		return false
	}
	switch {
	case s.Multi && (l.MP == 0 || s.Seq > greatest(l.MP)):
		return false
	case s.Multi && !s.Begin:
		return bare && s.Proto == 0
	case !s.Multi && (s.Begin || s.End || s.Seq > 0):
		return false
	case !s.Multi && s.Proto == 0x3d && l.MP > 0:
		return false
	case !s.Multi && s.Proto == 0xff && l.PFC && !s.Plain && !s.Wide:
		return false
	}
	fits := noPorts || s.Ports && s.From < 1<<16 && s.To < 1<<16
	switch s.Proto {
	case 0x21:
		return fits && s.Next == int(byte(s.Next)) && s.Src == address(s.Src[:4]...) && s.Dst == address(s.Dst[:4]...)
	case 0x57:
		return fits && s.Next == int(byte(s.Next))
	}
	return bare && s.Proto == s.Proto&0xfeff|1
}

// digits tells a number's lowest bits as text of so many digits.
func digits(count int, v uint64) string {
	text := strings.Repeat("0", 16) + strconv.FormatUint(v, 16)
	return text[len(text)-count:]
}

// reckon is the frame of a right spec once more, as text: what stands ahead of At, and what stands behind.
func reckon(l api.Link, s api.Spec) (head string, behind string) {
	field := func(proto uint32) string {
		if l.PFC && !s.Plain && proto <= 0xff {
			return digits(2, uint64(proto))
		}
		return digits(4, uint64(proto))
	}
	if s.Wide {
		head = "ff03"
	}
	if s.Multi {
		head += field(0x3d) + digits(1, map[bool]uint64{true: 8}[s.Begin]+map[bool]uint64{true: 4}[s.End])
		head += digits(4*l.MP-1, uint64(s.Seq))
	}
	if !s.Multi || s.Begin {
		head += field(s.Proto)
	}
	if s.Ports {
		behind = digits(4, uint64(s.From)) + digits(4, uint64(s.To))
	}
	behind += word.Hex(s.Data)
	next := digits(2, uint64(s.Next))
	switch s.Proto {
	case 0x21:
		behind = "4500" + digits(4, uint64(20+len(behind)/2)) + "0000000040" + next + "0000" + word.Hex(s.Src[:4]) + word.Hex(s.Dst[:4]) + behind
	case 0x57:
		behind = "60000000" + digits(4, uint64(len(behind)/2)) + next + "40" + word.Hex(s.Src[:]) + word.Hex(s.Dst[:]) + behind
	}
	return head, behind
}

// viewOf tells what P8.2 asks for, with the load's place.
func viewOf(s api.Spec, at int) api.View {
	v := api.View{Proto: s.Proto, Multi: s.Multi, Begin: s.Begin, End: s.End, Seq: s.Seq, At: at, Next: s.Next}
	switch {
	case s.Multi && !s.Begin:
		v.Proto = api.ProtoMulti
	case s.Proto == api.ProtoIP:
		v.Net, v.Load = 4, at+20
	case s.Proto == api.ProtoIP6:
		v.Net, v.Load = 6, at+40
	}
	return v
}

// held holds one spec on one link against the reckoning, and tells whether it was taken.
func held(t *testing.T, l api.Link, s api.Spec) bool {
	t.Helper()
	if !isRight(l, s) {
		refused(t, l, s, api.ErrForgeSpec)
		return false
	}
	head, behind := reckon(l, s)
	b, e := forge.Make(l, s)
	if e != api.OK || word.Hex(b) != head+behind {
		t.Fatalf("P8.1: Make(%+v, %+v) = %x, %d; want %s %s", l, s, b, e, head, behind)
	}
	want := viewOf(s, len(head)/2)
	if v, e := frame.Look(l, b); e != api.OK || v != want {
		t.Fatalf("P8.2: Look(%+v, %x) = %+v, %d; want %+v", l, b, v, e, want)
	}
	return true
}

// anySpec tells a spec that is right in most of its parts.
func anySpec(r *rand.Rand) api.Spec {
	flip := func() bool { return r.Intn(2) == 0 }
	s := api.Spec{Plain: flip(), Wide: r.Intn(3) > 0, Multi: flip()}
	s.Proto = []uint32{0x21, 0x57, 0x21, 0x57, 0x3d, 0xff, 0xc021, 0x2ff, 0xfeff}[r.Intn(9)]
	if s.Multi {
		s.Begin, s.End = r.Intn(3) > 0, flip()
		s.Seq = []uint32{0, 1, 258, 4095, 65536, 1<<24 - 1}[r.Intn(6)]
	}
	if s.Multi && !s.Begin {
		s.Proto = 0
	}
	if s.Proto == 0x21 || s.Proto == 0x57 {
		s.Next = []int{0, 1, 6, 17, 58, 255}[r.Intn(6)]
		size := 4
		if s.Proto == 0x57 {
			size = 16
		}
		r.Read(s.Src[:size])
		r.Read(s.Dst[:size])
		if s.Ports = flip(); s.Ports {
			s.From, s.To = uint32(r.Intn(65536)), uint32(r.Intn(65536))
		}
	}
	s.Data = make([]byte, []int{0, 1, 2, 19, 20, 40, 235, 236, 240, 256, 300}[r.Intn(11)])
	r.Read(s.Data)
	if r.Intn(3) == 0 {
		spoil(r, &s)
	}
	return s
}

// spoil sets one part of a spec to what may be wrong.
func spoil(r *rand.Rand, s *api.Spec) {
	port := []uint32{1, 65535, 65536, 1 << 31}[r.Intn(4)]
	switch r.Intn(12) {
	case 0:
		s.Begin = !s.Begin
	case 1:
		s.End = !s.End
	case 2:
		s.Multi = !s.Multi
	case 3:
		s.Seq = []uint32{1, 4095, 4096, 1<<24 - 1, 1 << 24, 1<<32 - 1}[r.Intn(6)]
	case 4:
		s.Proto = []uint32{0, 1, 0x3d, 0xff, 0x1ff, 0x100, 0x200, 0x10021, 0x10057}[r.Intn(9)]
	case 5:
		s.Next = []int{-1, 0, 255, 256, 65536 + 6}[r.Intn(5)]
	case 6:
		s.Src[r.Intn(16)] ^= 1
	case 7:
		s.Dst[r.Intn(16)] ^= 128
	case 8:
		s.Ports = !s.Ports
	case 9:
		s.From = port
	case 10:
		s.To = port
	case 11:
		s.Wide = !s.Wide
	}
}

func TestAgainstAnotherReckoning(t *testing.T) {
	r := rand.New(rand.NewSource(81))
	made, wrong, pieces, nets := 0, 0, 0, 0
	for range 40000 {
		s := anySpec(r)
		for _, l := range links() {
			switch {
			case !held(t, l, s):
				wrong++
			case s.Multi && s.Next != 0:
				nets++
			case s.Multi:
				pieces++
			default:
				made++
			}
		}
	}
	if min(made, wrong, pieces, nets) < 10000 {
		t.Errorf("only %d frames, %d wrong ones, %d pieces, %d of IP and IP6", made, wrong, pieces, nets)
	}
}

// TestEveryFlag has all flags on all links, with and without a number, over protocols that matter.
func TestEveryFlag(t *testing.T) {
	for flags := range 64 {
		bit := func(at int) bool { return flags>>at&1 == 1 }
		for _, proto := range []uint32{0, 0x21, 0x3d, 0x57, 0xff, 0x101, 0x201, 0xc021} {
			for _, seq := range []uint32{0, 7, 4095, 4096, 1<<24 - 1, 1 << 24} {
				for _, l := range links() {
					held(t, l, api.Spec{Plain: bit(0), Wide: bit(1), Multi: bit(2), Begin: bit(3), End: bit(4), Ports: bit(5), Seq: seq, Proto: proto})
				}
			}
		}
	}
}

// TestLengths has frames around the greatest size, of all kinds, and the lengths that their headers tell.
func TestLengths(t *testing.T) {
	for _, s := range []api.Spec{
		{Wide: true, Proto: 0xc021}, {Proto: 0xc021}, {Wide: true, Proto: 0x21}, {Proto: 0x21, Next: 6, Ports: true, From: 1, To: 2}, {Wide: true, Plain: true, Proto: 0x57, Next: 58},
		{Wide: true, Proto: 0x57, Ports: true, From: 65535}, {Multi: true}, {Wide: true, Multi: true, End: true, Seq: 9}, {Wide: true, Multi: true, Begin: true, Proto: 0x21, Ports: true},
		{Multi: true, Begin: true, Proto: 0x57}, {Wide: true, Multi: true, Begin: true, Proto: 0x3d},
	} {
		for _, l := range links() {
			if !isRight(l, s) {
				continue
			}
			s.Data = nil
			head, behind := reckon(l, s)
			most := api.MaxFrame - len(head+behind)/2
			for _, size := range []int{0, 1, 255, 256, most - 1, most} {
				s.Data = bytes.Repeat([]byte{0x5a}, size)
				held(t, l, s)
			}
			for _, size := range []int{most + 1, most + 2, api.MaxFrame, api.MaxFrame + 1, 1<<16 + most, 1 << 20} {
				s.Data = make([]byte, size)
				refused(t, l, s, api.ErrForgeLong)
			}
		}
	}
}

// TestNoData has a list of no bytes beside none at all.
func TestNoData(t *testing.T) {
	for _, data := range [][]byte{nil, {}, make([]byte, 0, 9)} {
		made(t, link("--0"), api.Spec{Wide: true, Proto: 0xc021, Data: data}, "ff 03 c0 21")
		made(t, link("AP1"), api.Spec{Multi: true, Data: data}, "3d 00 00")
	}
}

// TestMemory has data with spare room behind them, and writes into all that is handed out.
func TestMemory(t *testing.T) {
	whole := bytes.Repeat([]byte{0xa5}, 60)
	for size := range whole {
		for _, s := range []api.Spec{{Wide: true, Proto: 0xc021}, {Wide: true, Proto: 0x21, Ports: true, From: 1, To: 2}, {Wide: true, Proto: 0x57, Next: 6}} {
			s.Data = whole[:size]
			alone := s
			alone.Data = slices.Clip(slices.Clone(s.Data))
			want, _ := forge.Make(link("--0"), alone)
			want = slices.Clone(want)
			b, e := forge.Make(link("--0"), s)
			again, _ := forge.Make(link("--0"), s)
			if e != api.OK || !bytes.Equal(b, want) {
				t.Errorf("R3: Make with spare room behind Data = %x, %d; without %x", b, e, want)
			}
			if bytes.Contains(b[len(b):cap(b)], []byte{0xa5}) {
				t.Errorf("R3: Make handed out what lay behind the end of Data")
			}
			for at := range b[:cap(b)] {
				b[:cap(b)][at] ^= 0xff
			}
			third, _ := forge.Make(link("--0"), s)
			if !bytes.Equal(again, want) || !bytes.Equal(third, want) {
				t.Errorf("R3: two frames share memory: %x, %x; want %x", again, third, want)
			}
			if !bytes.Equal(whole, bytes.Repeat([]byte{0xa5}, 60)) {
				t.Fatalf("R3: what was handed in became %x", whole)
			}
		}
	}
}

func BenchmarkMake(b *testing.B) {
	s := api.Spec{Wide: true, Proto: 0x57, Ports: true, Data: make([]byte, 65000)}
	for b.Loop() {
		forge.Make(api.Link{}, s)
	}
}
