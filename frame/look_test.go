package frame_test

import (
	"math"
	"strings"
	"testing"

	"riddle/api"
	"riddle/frame"
	"riddle/word"
)

// links tells all links that may be.
func links() []api.Link {
	var out []api.Link
	for at := range 12 {
		out = append(out, api.Link{ACFC: at%2 == 1, PFC: at/2%2 == 1, MP: at / 4})
	}
	return out
}

// link tells the link that a text like A-0 says.
func link(s string) api.Link {
	return api.Link{ACFC: s[0] == 'A', PFC: s[1] == 'P', MP: int(s[2] - '0')}
}

// list tells the bytes of a text in which blanks may stand.
func list(t *testing.T, s string) []byte {
	t.Helper()
	b, ok := word.Unhex(strings.ReplaceAll(s, " ", ""))
	if !ok {
		t.Fatalf("%q is no text of bytes", s)
	}
	return b
}

func noughts(count int) string {
	return strings.Repeat("00", count)
}

// refused holds that a frame is answered by an error and the zero view.
func refused(t *testing.T, l string, b string, want api.Errno) {
	t.Helper()
	if v, e := frame.Look(link(l), list(t, b)); e != want || v != (api.View{}) {
		t.Errorf("P7.2: Look(%s, %s) = %+v, %d; want error %d", l, b, v, e, want)
	}
}

// seen holds that a frame is answered by a view.
func seen(t *testing.T, l string, b string, want api.View) {
	t.Helper()
	if v, e := frame.Look(link(l), list(t, b)); e != api.OK || v != want {
		t.Errorf("P7.2: Look(%s, %s) = %+v, %d; want %+v", l, b, v, e, want)
	}
}

func TestCheck(t *testing.T) {
	for _, l := range links() {
		if e := frame.Check(l); e != api.OK {
			t.Errorf("P7.1: Check(%+v) = %d", l, e)
		}
	}
	for _, mp := range noMulti() {
		for _, l := range links() {
			l.MP = mp
			if e := frame.Check(l); e != api.ErrFrameLink {
				t.Errorf("P7.1: Check(%+v) = %d", l, e)
			}
		}
	}
}

// noMulti tells numbers that no link's MP may be.
func noMulti() []int {
	return []int{-1, -2, 3, 4, 5, 255, 256, 257, 1 << 16, 1 << 31, 1 << 32, 1<<32 + 1, 1<<32 + 2, -1 << 32, math.MinInt, math.MinInt + 1, math.MaxInt}
}

// TestNoLink has frames of all kinds: the link's error counts ahead of theirs.
func TestNoLink(t *testing.T) {
	for _, mp := range noMulti() {
		for _, b := range [][]byte{nil, {}, {0xff}, {0xff, 3, 0xc0, 0x21}, {0xff, 3, 0, 0x3d, 0x80, 0}, {0xff, 3, 0, 0x21}, make([]byte, api.MaxFrame), make([]byte, api.MaxFrame+1)} {
			for _, l := range links() {
				l.MP = mp
				if v, e := frame.Look(l, b); e != api.ErrFrameLink || v != (api.View{}) {
					t.Errorf("P7.2: Look(%+v, %d bytes) = %+v, %d", l, len(b), v, e)
				}
			}
		}
	}
}

func TestExamples(t *testing.T) {
	seen(t, "--0", "ff 03 c0 21 01", api.View{Proto: 0xc021, At: 4})
	refused(t, "--0", "c0 21 01", api.ErrFrameAddress)
	refused(t, "--0", "ff", api.ErrFrameShort)
	refused(t, "--0", "ff 03 21 45", api.ErrFrameProto)
	seen(t, "A-0", "c0 21 01", api.View{Proto: 0xc021, At: 2})
	seen(t, "AP0", "3d 05", api.View{Proto: 0x3d, At: 1})
	seen(t, "AP0", "00 3d 05", api.View{Proto: 0x3d, At: 2})
	refused(t, "AP0", "02 00", api.ErrFrameProto)
	refused(t, "AP0", "", api.ErrFrameShort)
	seen(t, "-P1", "ff 03 3d 80 07 21 45"+noughts(19), api.View{Proto: 0x21, Multi: true, Begin: true, Seq: 7, At: 6, Net: 4, Load: 26})
	seen(t, "-P1", "ff 03 3d 40 07", api.View{Proto: 0x3d, Multi: true, End: true, Seq: 7, At: 5})
	refused(t, "-P1", "ff 03 3d 90 07 21", api.ErrFrameMulti)
	seen(t, "--2", "ff 03 00 3d 80 00 01 00 c0 21", api.View{Proto: 0xc021, Multi: true, Begin: true, Seq: 256, At: 10})
	refused(t, "--0", "ff 03 00 21 46"+noughts(19), api.ErrFrameShort)
	refused(t, "--0", "ff 03 00 21 44"+noughts(19), api.ErrFrameIP)
	seen(t, "--0", "ff 03 00 57 60"+noughts(39), api.View{Proto: 0x57, At: 4, Net: 6, Load: 44})
	seen(t, "A-0", "ff 03 c0 21", api.View{Proto: 0xc021, At: 4})
	seen(t, "AP0", "ff 04", api.View{Proto: 0xff, At: 1})
}

func TestAddress(t *testing.T) {
	for _, x := range []struct {
		b    string
		l    string
		want api.Errno
	}{
		{"", "--0", api.ErrFrameShort}, {"", "-P0", api.ErrFrameShort}, {"", "A-0", api.ErrFrameShort}, {"", "AP0", api.ErrFrameShort},
		{"00", "--0", api.ErrFrameShort}, {"21", "-P0", api.ErrFrameShort}, {"c0", "A-0", api.ErrFrameShort}, {"c0", "AP0", api.ErrFrameShort}, {"21", "A-0", api.ErrFrameProto},
		{"ff", "--0", api.ErrFrameShort}, {"ff", "-P0", api.ErrFrameShort}, {"ff", "A-0", api.ErrFrameProto},
		{"ff 03", "--0", api.ErrFrameShort}, {"ff 03", "-P0", api.ErrFrameShort}, {"ff 03", "A-0", api.ErrFrameShort}, {"ff 03", "AP0", api.ErrFrameShort},
		{"ff 02", "--0", api.ErrFrameAddress}, {"ff 04", "-P0", api.ErrFrameAddress}, {"fe 03", "--0", api.ErrFrameAddress}, {"03 ff", "--0", api.ErrFrameAddress}, {"00 03", "-P0", api.ErrFrameAddress},
		{"ff 02", "A-0", api.ErrFrameProto}, {"03 ff", "A-0", api.ErrFrameProto},
		{"c0 21 ff 03", "--0", api.ErrFrameAddress}, {"7f 03 c0 21", "--0", api.ErrFrameAddress}, {"ff 83 c0 21", "--0", api.ErrFrameAddress},
		{"ff 03 ff 03", "--0", api.ErrFrameProto}, {"ff 03 ff 03", "A-0", api.ErrFrameProto},
	} {
		refused(t, x.l, x.b, x.want)
	}
	seen(t, "AP0", "ff", api.View{Proto: 0xff, At: 1})
	seen(t, "AP0", "ff 02", api.View{Proto: 0xff, At: 1})
	seen(t, "AP0", "ff ff 03", api.View{Proto: 0xff, At: 1})
	seen(t, "AP0", "ff 03 ff 03", api.View{Proto: 0xff, At: 3})
	seen(t, "-P0", "ff 03 ff 03", api.View{Proto: 0xff, At: 3})
	seen(t, "A-0", "c0 21", api.View{Proto: 0xc021, At: 2})
	seen(t, "A-0", "fe 03", api.View{Proto: 0xfe03, At: 2})
}

// TestAddressAtEveryPair has each pair of first bytes, and a field of a protocol behind them.
func TestAddressAtEveryPair(t *testing.T) {
	for pair := range 1 << 16 {
		b := []byte{byte(pair >> 8), byte(pair), 0xc0, 0x21}
		want, wantError := api.View{}, api.ErrFrameAddress
		if pair == 0xff03 {
			want, wantError = api.View{Proto: 0xc021, At: 4}, api.OK
		}
		for _, l := range links() {
			if l.ACFC {
				continue
			}
			if v, e := frame.Look(l, b); v != want || e != wantError {
				t.Fatalf("P7.2: Look(%+v, %x) = %+v, %d; want %+v, %d", l, b, v, e, want, wantError)
			}
		}
	}
}

// TestProtocolAtEveryPair has each pair of bytes as the protocol field, behind an address and without; protocols with a header of their own are looked at elsewhere.
func TestProtocolAtEveryPair(t *testing.T) {
	for pair := range 1 << 16 {
		first, second := byte(pair>>8), byte(pair)
		for _, l := range links() {
			want, wantError := api.View{Proto: uint32(pair), At: 2}, api.OK
			switch {
			case first&1 == 1 && l.PFC:
				want = api.View{Proto: uint32(first), At: 1}
			case first&1 == 1 || second&1 == 0:
				want, wantError = api.View{}, api.ErrFrameProto
			}
			if hasHeader(want.Proto) || pair == 0xff03 {
				continue
			}
			if v, e := frame.Look(l, []byte{first, second}); l.ACFC && (v != want || e != wantError) {
				t.Fatalf("P7.2: Look(%+v, %02x %02x) = %+v, %d; want %+v, %d", l, first, second, v, e, want, wantError)
			}
			if wantError == api.OK {
				want.At += 2
			}
			if v, e := frame.Look(l, []byte{0xff, 3, first, second}); v != want || e != wantError {
				t.Fatalf("P7.2: Look(%+v, ff 03 %02x %02x) = %+v, %d; want %+v, %d", l, first, second, v, e, want, wantError)
			}
		}
	}
}

func hasHeader(proto uint32) bool {
	return proto == api.ProtoIP || proto == api.ProtoIP6 || proto == api.ProtoMulti
}

func TestProtocolOfOneByte(t *testing.T) {
	for first := range 256 {
		for _, l := range links() {
			b := []byte{0xff, 3, byte(first)}
			want, wantError := api.View{Proto: uint32(first), At: 3}, api.OK
			switch {
			case first%2 == 0:
				want, wantError = api.View{}, api.ErrFrameShort
			case !l.PFC:
				want, wantError = api.View{}, api.ErrFrameProto
			case hasHeader(want.Proto) && (want.Proto != api.ProtoMulti || l.MP != 0):
				want, wantError = api.View{}, api.ErrFrameShort
			}
			if v, e := frame.Look(l, b); v != want || e != wantError {
				t.Errorf("P7.2: Look(%+v, %x) = %+v, %d; want %+v, %d", l, b, v, e, want, wantError)
			}
			if wantError == api.OK {
				want.At -= 2
			}
			if v, e := frame.Look(l, b[2:]); l.ACFC && (v != want || e != wantError) {
				t.Errorf("P7.2: Look(%+v, %x) = %+v, %d; want %+v, %d", l, b[2:], v, e, want, wantError)
			}
		}
	}
}
