package frame_test

import (
	"bytes"
	"math/rand"
	"slices"
	"testing"

	"riddle/api"
	"riddle/frame"
)

// reckon is the walk once more, in another way: rest is what is left of the frame at each step.
func reckon(l api.Link, b []byte) (api.View, api.Errno) {
	if len(b) > 65535 {
		return api.View{}, api.ErrFrameLong
	}
	rest, found := bytes.CutPrefix(b, []byte("\xff\x03"))
	if !found && !l.ACFC {
		if len(b) < 2 {
			return api.View{}, api.ErrFrameShort
		}
		return api.View{}, api.ErrFrameAddress
	}
	var v api.View
	var e api.Errno
	if v.Proto, rest, e = reckonField(l.PFC, rest); e != api.OK {
		return api.View{}, e
	}
	if v.Proto == 0x3d && l.MP > 0 {
		if rest, e = reckonPiece(l, rest, &v); e != api.OK {
			return api.View{}, e
		}
	}
	v.At = len(b) - len(rest)
	if e := reckonNet(rest, &v); e != api.OK {
		return api.View{}, e
	}
	return v, api.OK
}

func reckonField(pfc bool, b []byte) (uint32, []byte, api.Errno) {
	switch {
	case len(b) == 0:
		return 0, nil, api.ErrFrameShort
	case b[0]&1 == 1 && pfc:
		return uint32(b[0]), b[1:], api.OK
	case b[0]&1 == 1:
		return 0, nil, api.ErrFrameProto
	case len(b) == 1:
		return 0, nil, api.ErrFrameShort
	case b[1]&1 == 0:
		return 0, nil, api.ErrFrameProto
	}
	return uint32(b[0])*256 + uint32(b[1]), b[2:], api.OK
}

func reckonPiece(l api.Link, b []byte, v *api.View) ([]byte, api.Errno) {
	size, digits := 2, 3
	if l.MP == 2 {
		size, digits = 4, 6
	}
	if len(b) < size {
		return nil, api.ErrFrameShort
	}
	var halves []byte
	for _, c := range b[:size] {
		halves = append(halves, c>>4, c&15)
	}
	flags := halves[:len(halves)-digits]
	for _, d := range halves[len(flags):] {
		v.Seq = v.Seq*16 + uint32(d)
	}
	if flags[0]%4 != 0 || slices.Max(append(flags[1:len(flags):len(flags)], 0)) != 0 {
		return nil, api.ErrFrameMulti
	}
	v.Multi, v.Begin, v.End = true, flags[0] >= 8, flags[0]%8 >= 4
	if !v.Begin {
		return b[size:], api.OK
	}
	var e api.Errno
	v.Proto, b, e = reckonField(l.PFC, b[size:])
	return b, e
}

func reckonNet(b []byte, v *api.View) api.Errno {
	if v.Proto == 0x57 {
		if len(b) < 40 {
			return api.ErrFrameShort
		}
		v.Net, v.Next, v.Load = 6, int(b[6]), v.At+40
		if b[0] < 0x60 || b[0] >= 0x70 {
			return api.ErrFrameIP
		}
	}
	if v.Proto == 0x21 {
		if len(b) < 20 {
			return api.ErrFrameShort
		}
		if b[0] < 0x45 || b[0] >= 0x50 {
			return api.ErrFrameIP
		}
		size := int(b[0]-0x40) * 4
		if len(b) < size {
			return api.ErrFrameShort
		}
		v.Net, v.Next = 4, int(b[9])
		if b[6]%32 == 0 && b[7] == 0 {
			v.Load = v.At + size
		}
	}
	return api.OK
}

// anyFrame tells a frame of parts of which each may be right, wrong, or not there.
func anyFrame(r *rand.Rand) []byte {
	fields := []string{"\x00\x21", "\x21", "\x00\x57", "\x57", "\xc0\x21", "\xc0\x23", "\x3d", "\x00\x3d", "\xff", "\x02", "\x02\x02", ""}
	headers := []string{"\x80\x07", "\x40\x07", "\xcf\xff", "\x00\x00", "\x80\x00\x00\x07", "\xc0\xff\xff\xff", "\x00\x01\x02\x03", "\x90\x07", "\x81\x00\x00\x00", "\x60\x00", "\x80", ""}
	loads := []string{"\x45", "\x46", "\x4f", "\x44", "\x55", "\x60", "\x6f", "\x70", "\x5f", "\x00", ""}
	pick := func(texts []string) string { return texts[r.Intn(len(texts))] }
	out := []byte(pick([]string{"\xff\x03", "\xff\x03", "", "\xff", "\xff\x04"}))
	out = append(out, pick(fields)...)
	if r.Intn(2) == 0 {
		out = append([]byte(pick([]string{"\xff\x03\x00\x3d", "\xff\x03\x3d", "\x3d"})), pick(headers)...)
		out = append(out, pick(fields)...)
	}
	if r.Intn(4) > 0 {
		loads = []string{"\x45", "\x60"}
	}
	out = append(out, pick(loads)...)
	behind := make([]byte, []int{0, 5, 18, 19, 20, 38, 39, 40, 59, 60, 100}[r.Intn(11)])
	if r.Intn(2) == 0 {
		r.Read(behind)
	}
	return append(out, behind...)
}

func TestAgainstAnotherReckoning(t *testing.T) {
	r := rand.New(rand.NewSource(72))
	kinds := map[api.Errno]int{}
	begun, nets := 0, 0
	for range 60000 {
		b := anyFrame(r)
		for _, l := range links() {
			want, wantError := reckon(l, b)
			v, e := frame.Look(l, b)
			if v != want || e != wantError {
				t.Fatalf("P7.2: Look(%+v, %x) = %+v, %d; want %+v, %d", l, b, v, e, want, wantError)
			}
			kinds[e]++
			if v.Begin {
				begun++
			}
			if v.Net != 0 && v.Multi {
				nets++
			}
		}
	}
	for _, e := range []api.Errno{api.OK, api.ErrFrameShort, api.ErrFrameAddress, api.ErrFrameProto, api.ErrFrameMulti, api.ErrFrameIP} {
		if kinds[e] < 1000 {
			t.Errorf("only %d answers of %d among them", kinds[e], e)
		}
	}
	if begun < 1000 || nets < 1000 {
		t.Errorf("only %d pieces with Begin, %d of them of IP or IP6", begun, nets)
	}
}

// TestShortFrames has every frame of some bytes that matter, up to 6 of them.
func TestShortFrames(t *testing.T) {
	some := []byte{0xff, 3, 0, 0x3d, 0x21, 0x80, 0x57}
	frames := [][]byte{nil}
	for at := 0; at < len(frames); at++ {
		b := frames[at]
		for _, l := range links() {
			want, wantError := reckon(l, b)
			if v, e := frame.Look(l, b); v != want || e != wantError {
				t.Fatalf("P7.2: Look(%+v, %x) = %+v, %d; want %+v, %d", l, b, v, e, want, wantError)
			}
		}
		for _, c := range some {
			if len(b) < 6 {
				frames = append(frames, append(slices.Clone(b), c))
			}
		}
	}
}

func TestGreatFrames(t *testing.T) {
	whole := func(ahead string, size int) []byte {
		return append([]byte(ahead), make([]byte, size-len(ahead))...)
	}
	for _, x := range []struct {
		ahead string
		e     api.Errno
	}{
		{"\xff\x03\xc0\x21", api.OK},
		{"\xff\x03\x00\x21\x45", api.OK},
		{"\xff\x03\x00\x57\x60", api.OK},
		{"\xff\x03\x00\x21\x44", api.ErrFrameIP},
		{"\xff\x03\x00\x20", api.ErrFrameProto},
		{"\x01\x02", api.ErrFrameAddress},
	} {
		v, e := frame.Look(api.Link{}, whole(x.ahead, api.MaxFrame))
		if e != x.e || (e == api.OK) != (v.At == 4) {
			t.Errorf("P7.2: Look of MaxFrame bytes from %x on = %+v, %d; want error %d", x.ahead, v, e, x.e)
		}
		for _, more := range []int{1, 2, 1 << 16} {
			for _, l := range links() {
				if v, e := frame.Look(l, whole(x.ahead, api.MaxFrame+more)); e != api.ErrFrameLong || v != (api.View{}) {
					t.Errorf("P7.2: Look(%+v, %d bytes from %x on) = %+v, %d", l, api.MaxFrame+more, x.ahead, v, e)
				}
			}
		}
	}
}

// TestBytesBehind lays bytes behind frames that are well formed, and looks at every link.
func TestBytesBehind(t *testing.T) {
	r := rand.New(rand.NewSource(74))
	grown, moved := 0, 0
	for range 20000 {
		b := anyFrame(r)
		for _, l := range links() {
			v, e := frame.Look(l, b)
			if e != api.OK {
				continue
			}
			if v.At > len(b) || v.Load > len(b) || v.At < 0 || v.Load < 0 {
				t.Fatalf("P7.4: Look(%+v, %x) = %+v", l, b, v)
			}
			if len(b) >= 2 {
				more := append(slices.Clone(b), "\xff\x03\x00\x3d"[:1+r.Intn(4)]...)
				if r.Intn(2000) == 0 {
					more = append(more, make([]byte, api.MaxFrame-len(more))...)
				}
				if v2, e2 := frame.Look(l, more); e2 != api.OK || v2 != v {
					t.Fatalf("P7.4: Look(%+v, %x) = %+v; with bytes behind it %+v, %d", l, b, v, v2, e2)
				}
				grown++
			}
			if l == (api.Link{}) && v.Proto != api.ProtoMulti {
				for _, other := range links() {
					if v2, e2 := frame.Look(other, b); e2 != api.OK || v2 != v {
						t.Fatalf("P7.4: Look(plain, %x) = %+v; on %+v %+v, %d", b, v, other, v2, e2)
					}
				}
				moved++
			}
		}
	}
	if grown < 10000 || moved < 1000 {
		t.Errorf("only %d frames with bytes behind them, %d on every link", grown, moved)
	}
}

// TestOneByte has the frame for which P7.4 asks for two bytes.
func TestOneByte(t *testing.T) {
	seen(t, "AP0", "ff", api.View{Proto: 0xff, At: 1})
	refused(t, "AP0", "ff 03", api.ErrFrameShort)
}

func TestPacket(t *testing.T) {
	great := bytes.Repeat([]byte{7}, api.MaxFrame)
	for _, x := range []struct {
		way     int
		b, want []byte
	}{
		{api.WayIn, nil, []byte{0}}, {api.WayOut, nil, []byte{1}}, {api.WayIn, []byte{}, []byte{0}},
		{api.WayIn, []byte{1, 2}, []byte{0, 1, 2}}, {api.WayOut, []byte{1, 2}, []byte{1, 1, 2}},
		{api.WayIn, great, append([]byte{0}, great...)}, {api.WayOut, great, append([]byte{1}, great...)},
	} {
		if p := frame.Packet(x.way, x.b); !bytes.Equal(p, x.want) {
			t.Errorf("P7.3: Packet(%d, %.9x) = %.9x of %d bytes", x.way, x.b, p, len(p))
		}
	}
}

func TestPacketRefuses(t *testing.T) {
	ways := append(noMulti(), 2)
	for _, way := range ways {
		for _, b := range [][]byte{nil, {}, {1, 2}, make([]byte, api.MaxFrame), make([]byte, api.MaxFrame+1)} {
			if p := frame.Packet(way, b); len(p) != 0 {
				t.Errorf("P7.3: Packet(%d, %d bytes) has %d bytes", way, len(b), len(p))
			}
		}
	}
	for _, way := range []int{api.WayIn, api.WayOut} {
		for _, size := range []int{api.MaxFrame + 1, api.MaxFrame + 2, 1 << 20} {
			if p := frame.Packet(way, make([]byte, size)); len(p) != 0 {
				t.Errorf("P7.3: Packet(%d, %d bytes) has %d bytes", way, size, len(p))
			}
		}
	}
}

// TestMemory has frames with spare room behind them, in which they would go on.
func TestMemory(t *testing.T) {
	whole := slices.Concat([]byte{0xff, 3, 0, 0x3d, 0xc0, 7, 0, 0x21, 0x45}, bytes.Repeat([]byte{0xa5}, 60))
	before := slices.Clone(whole)
	for size := range whole {
		b := whole[:size]
		for _, l := range links() {
			v, e := frame.Look(l, b)
			if v2, e2 := frame.Look(l, slices.Clip(slices.Clone(b))); v2 != v || e2 != e {
				t.Errorf("R3: Look(%+v, %x) = %+v, %d; without spare room %+v, %d", l, b, v, e, v2, e2)
			}
		}
		p, again := frame.Packet(api.WayOut, b), frame.Packet(api.WayOut, b)
		if bytes.Contains(p[len(p):cap(p)], []byte{0xa5}) {
			t.Errorf("R3: Packet of %x handed out what lay behind its end", b)
		}
		for at := range p[:cap(p)] {
			p[:cap(p)][at] ^= 0xff
		}
		if !bytes.Equal(again, append([]byte{1}, b...)) {
			t.Errorf("R3: two packets of %x share memory", b)
		}
	}
	if !bytes.Equal(whole, before) {
		t.Errorf("R3: what was handed in became %x", whole)
	}
}

func BenchmarkLook(b *testing.B) {
	whole := append([]byte{0xff, 3, 0, 0x21, 0x45}, make([]byte, api.MaxFrame-5)...)
	for b.Loop() {
		frame.Look(api.Link{}, whole)
	}
}

func BenchmarkLookGivesUp(b *testing.B) {
	for b.Loop() {
		frame.Look(api.Link{}, []byte{0xff, 3, 0, 0x21, 0x45})
	}
}
