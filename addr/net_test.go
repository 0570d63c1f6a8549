package addr_test

import (
	"bytes"
	"math"
	"math/big"
	"math/rand"
	"slices"
	"testing"

	"riddle/addr"
	"riddle/api"
	"riddle/word"
)

// list tells the bytes of their text.
func list(t *testing.T, s string) []byte {
	t.Helper()
	b, ok := word.Unhex(s)
	if !ok {
		t.Fatalf("%q is no text of bytes", s)
	}
	return b
}

func TestNet(t *testing.T) {
	const ones = "ffffffffffffffffffffffffffffffff"
	for _, x := range []struct {
		a    string
		bits int
		want string
	}{
		{"0a0b0c0d", 12, "0a000000"},
		{"ffffffff", 0, "00000000"},
		{"ffffffff", 1, "80000000"},
		{"ffffffff", 7, "fe000000"},
		{"ffffffff", 8, "ff000000"},
		{"ffffffff", 9, "ff800000"},
		{"ffffffff", 16, "ffff0000"},
		{"ffffffff", 31, "fffffffe"},
		{"ffffffff", 32, "ffffffff"},
		{"0a0b0c0d", 32, "0a0b0c0d"},
		{"0a0b0c0d", 31, "0a0b0c0c"},
		{ones, 0, "00000000000000000000000000000000"},
		{ones, 1, "80000000000000000000000000000000"},
		{ones, 7, "fe000000000000000000000000000000"},
		{ones, 8, "ff000000000000000000000000000000"},
		{ones, 9, "ff800000000000000000000000000000"},
		{ones, 31, "fffffffe000000000000000000000000"},
		{ones, 32, "ffffffff000000000000000000000000"},
		{ones, 33, "ffffffff800000000000000000000000"},
		{ones, 64, "ffffffffffffffff0000000000000000"},
		{ones, 127, "fffffffffffffffffffffffffffffffe"},
		{ones, 128, ones},
	} {
		n, e := addr.Net(list(t, x.a), x.bits)
		if e != api.OK || word.Hex(n) != x.want {
			t.Errorf("P6.3: Net(%s, %d) = %x, %d; want %s", x.a, x.bits, n, e, x.want)
		}
	}
}

// outside tells numbers of bits that an address of that many bytes has not.
func outside(size int) []int {
	return []int{-1, -2, -8, math.MinInt, 8*size + 1, 8*size + 2, 8*size + 8, 8*size + 256, 1 << 16, 1 << 32, math.MaxInt}
}

func TestNetRefuses(t *testing.T) {
	for size := range 40 {
		a := bytes.Repeat([]byte{1}, size)
		want := api.ErrAddrForm
		if size == 4 || size == 16 {
			want = api.ErrAddrBits
		}
		for _, bits := range outside(size) {
			if n, e := addr.Net(a, bits); e != want || len(n) != 0 {
				t.Errorf("P6.3: Net of %d bytes, %d bits = %x, %d; want error %d", size, bits, n, e, want)
			}
		}
		for bits := 0; bits <= 8*size && want == api.ErrAddrForm; bits++ {
			if n, e := addr.Net(a, bits); e != want || len(n) != 0 {
				t.Errorf("P6.3: Net of %d bytes, %d bits = %x, %d; want error %d", size, bits, n, e, want)
			}
		}
	}
	if n, e := addr.Net(nil, 0); e != api.ErrAddrForm || len(n) != 0 {
		t.Errorf("P6.3: Net(nil, 0) = %x, %d", n, e)
	}
}

func TestIn(t *testing.T) {
	const six = "20010db8000000000000000000000001"
	for _, x := range []struct {
		a, net string
		bits   int
		in     bool
		e      api.Errno
	}{
		{"0a010203", "0a000000", 8, true, api.OK},
		{"0b010203", "0a000000", 8, false, api.OK},
		{"0a010203", "0a010000", 8, false, api.ErrAddrHost},
		{"0b010203", "0a010000", 8, false, api.ErrAddrHost},
		{"0b010203", "00000000", 0, true, api.OK},
		{"ffffffff", "00000000", 0, true, api.OK},
		{"0a010203", "0a010203", 32, true, api.OK},
		{"0a010202", "0a010203", 32, false, api.OK},
		{"8a010203", "0a010203", 32, false, api.OK},
		{"0a010203", "0a010202", 31, true, api.OK},
		{"0a010203", "0a010203", 31, false, api.ErrAddrHost},
		{"0a010203", "00000001", 0, false, api.ErrAddrHost},
		{"0a010203", "80000000", 0, false, api.ErrAddrHost},
		{"ffffffff", "80000000", 1, true, api.OK},
		{"7fffffff", "80000000", 1, false, api.OK},
		{six, "20010db8000000000000000000000000", 32, true, api.OK},
		{six, "20010db9000000000000000000000000", 32, false, api.OK},
		{six, six, 128, true, api.OK},
		{six, "20010db8000000000000000000000000", 128, false, api.OK},
		{six, "20010db8000000000000000000000000", 127, true, api.OK},
		{six, six, 127, false, api.ErrAddrHost},
		{six, "00000000000000000000000000000000", 0, true, api.OK},
		{six, "00000000000000000000000000000001", 0, false, api.ErrAddrHost},
	} {
		if in, e := addr.In(list(t, x.a), list(t, x.net), x.bits); in != x.in || e != x.e {
			t.Errorf("P6.4: In(%s, %s, %d) = %v, %d; want %v, %d", x.a, x.net, x.bits, in, e, x.in, x.e)
		}
	}
}

// TestInRefuses has nets with all bits set: where another error holds as well, it counts first.
func TestInRefuses(t *testing.T) {
	sizes := []int{0, 1, 3, 4, 5, 8, 12, 15, 16, 17, 32}
	for _, size := range sizes {
		for _, netSize := range sizes {
			want := api.ErrAddrForm
			if size == netSize && (size == 4 || size == 16) {
				want = api.ErrAddrBits
			}
			bits := outside(size)
			if want == api.ErrAddrForm {
				bits = append(bits, 0, 1, 7, 8, 9, 31, 32, 127, 128)
			}
			for _, n := range bits {
				if in, e := addr.In(make([]byte, size), bytes.Repeat([]byte{255}, netSize), n); in || e != want {
					t.Errorf("P6.4: In of %d bytes, a net of %d, %d bits = %v, %d; want error %d", size, netSize, n, in, e, want)
				}
			}
		}
	}
	for _, x := range [][2][]byte{{nil, nil}, {nil, make([]byte, 4)}, {make([]byte, 4), nil}, {make([]byte, 16), nil}, {{}, {}}} {
		if in, e := addr.In(x[0], x[1], 0); in || e != api.ErrAddrForm {
			t.Errorf("P6.4: In(%x, %x, 0) = %v, %d", x[0], x[1], in, e)
		}
	}
}

// TestInAtEveryBit flips each bit of an address in turn, and of its net.
func TestInAtEveryBit(t *testing.T) {
	for _, size := range []int{4, 16} {
		a := bytes.Repeat([]byte{0x5a, 0xff, 0x00, 0x81}, size/4)
		for bits := range 8*size + 1 {
			net, e := addr.Net(a, bits)
			if e != api.OK {
				t.Fatalf("P6.3: Net(%x, %d): error %d", a, bits, e)
			}
			for bit := range 8 * size {
				other := slices.Clone(a)
				other[bit/8] ^= 0x80 >> (bit % 8)
				if in, e := addr.In(other, net, bits); e != api.OK || in != (bit >= bits) {
					t.Fatalf("P6.4: In(%x, %x, %d) = %v, %d", other, net, bits, in, e)
				}
				host := slices.Clone(net)
				host[bit/8] ^= 0x80 >> (bit % 8)
				in, e := addr.In(a, host, bits)
				if in || bit < bits && e != api.OK || bit >= bits && e != api.ErrAddrHost {
					t.Fatalf("P6.4: In(%x, %x, %d) = %v, %d", a, host, bits, in, e)
				}
			}
		}
	}
}

// high tells the number that the first bits of b say.
func high(b []byte, bits int) *big.Int {
	return new(big.Int).Rsh(new(big.Int).SetBytes(b), uint(8*len(b)-bits))
}

func TestAnAddressIsInItsNets(t *testing.T) {
	r := rand.New(rand.NewSource(64))
	for _, size := range []int{4, 16} {
		inside := 0
		for range 300 {
			a, b := make([]byte, size), make([]byte, size)
			r.Read(a)
			r.Read(b)
			copy(b, a[:r.Intn(size)])
			for bits := range 8*size + 1 {
				net, e := addr.Net(a, bits)
				want := new(big.Int).Lsh(high(a, bits), uint(8*size-bits)).FillBytes(make([]byte, size))
				if e != api.OK || !bytes.Equal(net, want) {
					t.Fatalf("P6.3: Net(%x, %d) = %x, %d; want %x", a, bits, net, e, want)
				}
				if in, e := addr.In(a, net, bits); !in || e != api.OK {
					t.Fatalf("P6.5: In(%x, %x, %d) = %v, %d", a, net, bits, in, e)
				}
				alike := high(a, bits).Cmp(high(b, bits)) == 0
				if in, e := addr.In(b, net, bits); in != alike || e != api.OK {
					t.Fatalf("P6.4: In(%x, %x, %d) = %v, %d; want %v", b, net, bits, in, e, alike)
				}
				if alike {
					inside++
				}
			}
			if in, e := addr.In(b, make([]byte, size), 0); !in || e != api.OK {
				t.Fatalf("P6.5: In(%x, noughts, 0) = %v, %d", b, in, e)
			}
			if in, e := addr.In(b, a, 8*size); in != bytes.Equal(a, b) || e != api.OK {
				t.Fatalf("P6.5: In(%x, %x, %d) = %v, %d", b, a, 8*size, in, e)
			}
		}
		if inside < 1000 {
			t.Errorf("only %d of %d bytes were in another's net", inside, size)
		}
	}
}

// roomy tells b as a list with marked spare room behind its end, and the whole memory of it.
func roomy(b []byte) (list, whole []byte) {
	whole = append(slices.Clone(b), bytes.Repeat([]byte{0xa5}, 16)...)
	return whole[:len(b)], whole
}

func TestMemory(t *testing.T) {
	for _, size := range []int{0, 3, 4, 5, 12, 15, 16, 17} {
		for _, bits := range []int{-1, 0, 8, 13, 31, 32, 33, 127, 128, 129} {
			a, wholeA := roomy(bytes.Repeat([]byte{0x77}, size))
			net, wholeNet := roomy(bytes.Repeat([]byte{0x77}, size))
			before := slices.Clone(wholeA)
			got, e := addr.Net(a, bits)
			again, _ := addr.Net(a, bits)
			in, eIn := addr.In(a, net, bits)
			if bytes.Contains(got[:cap(got)], []byte{0xa5}) {
				t.Errorf("R3: Net of %d bytes, %d bits handed out what lay behind the end: %x", size, bits, got[:cap(got)])
			}
			copied := slices.Clone(got)
			for i := range got[:cap(got)] {
				got[:cap(got)][i] ^= 0xff
			}
			if !bytes.Equal(again, copied) {
				t.Errorf("R3: two answers of Net share memory")
			}
			if !bytes.Equal(wholeA, before) || !bytes.Equal(wholeNet, before) {
				t.Errorf("R3: of %d bytes, %d bits: what was handed in became %x, %x", size, bits, wholeA, wholeNet)
			}
			if third, e3 := addr.Net(a[:size:size], bits); e3 != e || !bytes.Equal(third, copied) {
				t.Errorf("R4: Net of %d bytes, %d bits hangs on spare room: %x, %d", size, bits, third, e3)
			}
			if in3, e3 := addr.In(a[:size:size], net[:size:size], bits); e3 != eIn || in3 != in {
				t.Errorf("R4: In of %d bytes, %d bits hangs on spare room: %v, %d", size, bits, in3, e3)
			}
		}
	}
}

func TestInOfOneList(t *testing.T) {
	a := []byte{10, 1, 2, 3}
	if in, e := addr.In(a, a, 32); !in || e != api.OK {
		t.Errorf("P6.5: In(a, a, 32) = %v, %d", in, e)
	}
	if net, e := addr.Net(a, 32); e != api.OK || &net[0] == &a[0] {
		t.Errorf("R3: Net of all bits hands out its argument")
	}
}
