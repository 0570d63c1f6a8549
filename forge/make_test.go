package forge_test

import (
	"bytes"
	"math"
	"strings"
	"testing"

	"riddle/api"
	"riddle/forge"
	"riddle/word"
)

// links tells all links that may be.
func links() []api.Link {
	var out []api.Link
	for at := range 12 {
		out = append(out, api.Link{ACFC: at%2 == 1, PFC: at/2%2 == 1, MP: at / 4})
	}
	return out
}

// link tells the link that a text like A-0 says.
func link(s string) api.Link {
	return api.Link{ACFC: s[0] == 'A', PFC: s[1] == 'P', MP: int(s[2] - '0')}
}

// list tells the bytes of a text in which blanks may stand.
func list(t *testing.T, s string) []byte {
	t.Helper()
	b, ok := word.Unhex(strings.ReplaceAll(s, " ", ""))
	if !ok {
		t.Fatalf("%q is no text of bytes", s)
	}
	return b
}

// address tells the address that begins with these bytes.
func address(first ...byte) (a [16]byte) {
	copy(a[:], first)
	return a
}

// greatest tells the greatest number of a piece on a link with multilink.
func greatest(mp int) uint32 {
	if mp == api.MultiShort {
		return 4095
	}
	return 1<<24 - 1
}

// made holds that a spec is answered by these bytes.
func made(t *testing.T, l api.Link, s api.Spec, want string) {
	t.Helper()
	if b, e := forge.Make(l, s); e != api.OK || !bytes.Equal(b, list(t, want)) {
		t.Errorf("P8.1: Make(%+v, %+v) = %x, %d; want %s", l, s, b, e, want)
	}
}

// refused holds that a spec is answered by an error and no bytes.
func refused(t *testing.T, l api.Link, s api.Spec, want api.Errno) {
	t.Helper()
	if b, e := forge.Make(l, s); e != want || len(b) != 0 {
		s.Data = s.Data[:min(len(s.Data), 9)]
		t.Errorf("P8.1: Make(%+v, %+v) has %d bytes, error %d; want error %d", l, s, len(b), e, want)
	}
}

// taken holds that a spec is answered by a frame.
func taken(t *testing.T, l api.Link, s api.Spec) {
	t.Helper()
	if b, e := forge.Make(l, s); e != api.OK || len(b) == 0 {
		t.Errorf("P8.1: Make(%+v, %+v) = %x, %d; want a frame", l, s, b, e)
	}
}

func TestExamples(t *testing.T) {
	made(t, link("--0"), api.Spec{Wide: true, Proto: 0xc021, Data: []byte{1}}, "ff 03 c0 21 01")
	made(t, link("AP0"), api.Spec{Proto: 0x21, Next: 17, Src: address(1, 2, 3, 4), Dst: address(5, 6, 7, 8), Ports: true, From: 53, To: 54},
		"21 45 00 00 18 00 00 00 00 40 11 00 00 01 02 03 04 05 06 07 08 00 35 00 36")
	made(t, link("-P2"), api.Spec{Wide: true, Multi: true, End: true, Seq: 258, Data: []byte{0xaa}}, "ff 03 3d 40 00 01 02 aa")
	made(t, link("-P1"), api.Spec{Wide: true, Plain: true, Multi: true, Begin: true, Seq: 1, Proto: 0xc021}, "ff 03 00 3d 80 01 c0 21")
	refused(t, link("--0"), api.Spec{Proto: 0xc021}, api.ErrForgeSpec)
	refused(t, link("AP0"), api.Spec{Proto: 0xff}, api.ErrForgeSpec)
	made(t, link("AP0"), api.Spec{Plain: true, Proto: 0xff}, "00 ff")
	refused(t, link("--0"), api.Spec{Wide: true, Proto: 0x2100}, api.ErrForgeSpec)
}

func TestProtocolField(t *testing.T) {
	for _, x := range []struct {
		link  string
		plain bool
		proto uint32
		want  string
	}{
		{"A-0", false, 0x01, "00 01"}, {"A-0", true, 0x01, "00 01"}, {"AP0", true, 0x01, "00 01"}, {"AP0", false, 0x01, "01"},
		{"A-0", false, 0xfd, "00 fd"}, {"AP0", true, 0xfd, "00 fd"}, {"AP0", false, 0xfd, "fd"},
		{"A-0", false, 0xff, "00 ff"}, {"A-0", true, 0xff, "00 ff"}, {"AP0", true, 0xff, "00 ff"},
		{"A-0", false, 0x201, "02 01"}, {"AP0", true, 0x201, "02 01"}, {"AP0", false, 0x201, "02 01"},
		{"AP0", false, 0x2ff, "02 ff"}, {"AP0", true, 0x2ff, "02 ff"}, {"AP0", false, 0xc223, "c2 23"}, {"AP0", false, 0xfeff, "fe ff"},
		{"AP0", false, 0x3d, "3d"}, {"A-0", false, 0x3d, "00 3d"},
	} {
		made(t, link(x.link), api.Spec{Plain: x.plain, Proto: x.proto, Data: []byte{9}}, x.want+"09")
		made(t, link(x.link), api.Spec{Wide: true, Plain: x.plain, Proto: x.proto}, "ff 03"+x.want)
		l := link(x.link)
		l.ACFC = false
		made(t, l, api.Spec{Wide: true, Plain: x.plain, Proto: x.proto, Data: []byte{0xff, 3}}, "ff 03"+x.want+"ff 03")
	}
	for _, name := range []string{"-P0", "AP0", "-P1", "AP2"} {
		made(t, link(name), api.Spec{Wide: true, Proto: 0xff, Data: []byte{3}}, "ff 03 ff 03")
	}
}

func TestPieces(t *testing.T) {
	made(t, link("A-1"), api.Spec{Multi: true}, "00 3d 00 00")
	made(t, link("AP1"), api.Spec{Multi: true}, "3d 00 00")
	made(t, link("AP1"), api.Spec{Multi: true, Plain: true, End: true, Seq: 4095, Data: []byte{1, 2}}, "00 3d 4f ff 01 02")
	made(t, link("AP1"), api.Spec{Multi: true, Begin: true, Seq: 4095, Proto: 0x23}, "3d 8f ff 23")
	made(t, link("AP1"), api.Spec{Multi: true, Begin: true, End: true, Seq: 258, Proto: 0xff, Data: []byte{3}}, "3d c1 02 ff 03")
	made(t, link("A-1"), api.Spec{Multi: true, Begin: true, Proto: 0xff}, "00 3d 80 00 00 ff")
	made(t, link("AP1"), api.Spec{Multi: true, Begin: true, Proto: 0x3d}, "3d 80 00 3d")
	made(t, link("--2"), api.Spec{Wide: true, Multi: true}, "ff 03 00 3d 00 00 00 00")
	made(t, link("AP2"), api.Spec{Multi: true, End: true, Seq: 1<<24 - 1}, "3d 40 ff ff ff")
	made(t, link("AP2"), api.Spec{Multi: true, Begin: true, Seq: 1<<24 - 1, Proto: 0xc021, Data: []byte{7}}, "3d 80 ff ff ff c0 21 07")
	made(t, link("--2"), api.Spec{Wide: true, Multi: true, Begin: true, End: true, Seq: 0x10203, Proto: 0x3d}, "ff 03 00 3d c0 01 02 03 00 3d")
	made(t, link("AP2"), api.Spec{Plain: true, Multi: true, Begin: true, Seq: 4096, Proto: 0x21, Next: 1, Src: address(1, 0, 0, 4)},
		"00 3d 80 00 10 00 00 21 45 00 00 14 00 00 00 00 40 01 00 00 01 00 00 04 00 00 00 00")
}

func TestNetworks(t *testing.T) {
	src, dst := "000102030405060708090a0b0c0d0e0f", "f0f1f2f3f4f5f6f7f8f9fafbfcfdfeff"
	six := api.Spec{Proto: 0x57, Next: 58, Src: [16]byte(list(t, src)), Dst: [16]byte(list(t, dst))}
	made(t, link("AP0"), six, "57 60 00 00 00 00 00 3a 40"+src+dst)
	six.Data = []byte{0xab, 0xcd}
	made(t, link("AP0"), six, "57 60 00 00 00 00 02 3a 40"+src+dst+"ab cd")
	six.Ports, six.From, six.To, six.Next = true, 65535, 258, 255
	made(t, link("A-0"), six, "00 57 60 00 00 00 00 06 ff 40"+src+dst+"ff ff 01 02 ab cd")
	made(t, link("A-0"), api.Spec{Proto: 0x57}, "00 57 60 00 00 00 00 00 00 40"+strings.Repeat("00", 32))

	four := api.Spec{Proto: 0x21, Next: 255, Src: address(10, 11, 12, 13), Dst: address(250, 251, 252, 253)}
	made(t, link("AP0"), four, "21 45 00 00 14 00 00 00 00 40 ff 00 00 0a 0b 0c 0d fa fb fc fd")
	four.Data = []byte{0xab, 0xcd, 0xef}
	made(t, link("AP0"), four, "21 45 00 00 17 00 00 00 00 40 ff 00 00 0a 0b 0c 0d fa fb fc fd ab cd ef")
	four.Ports, four.From, four.To = true, 256, 65535
	made(t, link("AP0"), four, "21 45 00 00 1b 00 00 00 00 40 ff 00 00 0a 0b 0c 0d fa fb fc fd 01 00 ff ff ab cd ef")
	made(t, link("AP0"), api.Spec{Proto: 0x21, Ports: true}, "21 45 00 00 18 00 00 00 00 40 00 00 00"+strings.Repeat("00", 12))
	made(t, link("--0"), api.Spec{Wide: true, Proto: 0x21, Data: []byte{1}}, "ff 03 00 21 45 00 00 15 00 00 00 00 40 00 00 00"+strings.Repeat("00", 8)+"01")
}

// TestNoNetwork has protocols that are near to those of IP and IP6: Data stand right behind their fields.
func TestNoNetwork(t *testing.T) {
	for _, x := range []struct {
		proto uint32
		want  string
	}{
		{0x1f, "00 1f"}, {0x23, "00 23"}, {0x55, "00 55"}, {0x59, "00 59"}, {0x8021, "80 21"}, {0x8057, "80 57"}, {0x2021, "20 21"}, {0x0257, "02 57"},
	} {
		made(t, link("--0"), api.Spec{Wide: true, Proto: x.proto, Data: []byte{0x45, 0}}, "ff 03"+x.want+"45 00")
	}
}

// noMulti tells numbers that no link's MP may be.
func noMulti() []int {
	return []int{-1, -2, 3, 4, 5, 255, 256, 257, 1 << 16, 1 << 31, 1 << 32, 1<<32 + 1, 1<<32 + 2, -1 << 32, math.MinInt, math.MinInt + 1, math.MaxInt}
}

// TestNoLink has specs of all kinds: the link's error counts ahead of theirs.
func TestNoLink(t *testing.T) {
	for _, mp := range noMulti() {
		for _, s := range []api.Spec{
			{}, {Wide: true, Proto: 0xc021}, {Proto: 0x21}, {Wide: true, Multi: true}, {Wide: true, Multi: true, Begin: true, Seq: math.MaxUint32, Proto: 0x57},
			{Wide: true, Proto: 0x3d}, {Proto: 0xff}, {Wide: true, Proto: 2, Next: -1, From: 1},
			{Wide: true, Proto: 0xc021, Data: make([]byte, api.MaxFrame)}, {Proto: 2, Data: make([]byte, api.MaxFrame+1)},
		} {
			for _, l := range links() {
				l.MP = mp
				refused(t, l, s, api.ErrFrameLink)
			}
		}
	}
}
