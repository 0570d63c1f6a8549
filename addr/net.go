package addr

import (
	"bytes"

	"riddle/api"
)

// Net tells the net of the first bits bits that the address is in.
func Net(a []byte, bits int) ([]byte, api.Errno) {
	if len(a) != 4 && len(a) != 16 {
		return nil, api.ErrAddrForm
	}
	if bits < 0 || bits > 8*len(a) {
		return nil, api.ErrAddrBits
	}
	out := make([]byte, len(a))
	for at, v := range a {
		out[at] = v & mask(bits-8*at)
	}
	return out, api.OK
}

// mask keeps as many of a byte's first bits as are left for it.
func mask(left int) byte {
	return ^byte(0xff >> min(max(left, 0), 8))
}

// In tells whether the address is in that net of bits bits.
func In(a []byte, net []byte, bits int) (bool, api.Errno) {
	own, e := Net(a, bits)
	if len(a) != len(net) {
		e = api.ErrAddrForm
	}
	if e != api.OK {
		return false, e
	}
	if kept, _ := Net(net, bits); !bytes.Equal(kept, net) {
		return false, api.ErrAddrHost
	}
	return bytes.Equal(own, net), api.OK
}
