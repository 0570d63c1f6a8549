// Package walk: a reader of frames, step by step; whatever looks for a frame's parts, finds them by these steps. See DOC.md, 'Where a frame's parts lie'.
//
// A step that does not find what it asks for gives up by a panic with its api.Errno, which whoever takes the steps catches.
package walk

import (
	"riddle/api"
	"riddle/word"
)

// AllStations is the one address and control that there is.
const AllStations = 0xff03

// Sizes of the headers of IP and IP6 that are there in any case.
const (
	SizeIP  = 20
	SizeIP6 = 40
)

// Walk is what a reader of a frame has found so far; its At is the place reached.
type Walk struct {
	api.View
	link  api.Link
	frame []byte
}

// Over tells a reader at a frame's beginning, on a link that may be.
func Over(l api.Link, b []byte) *Walk {
	return &Walk{link: l, frame: b}
}

// Length asks that there are no more bytes than a frame may have.
func (w *Walk) Length() {
	if len(w.frame) > api.MaxFrame {
		panic(api.ErrFrameLong)
	}
}

// Address goes behind address and control, where they are or must be.
func (w *Walk) Address() {
	field, ok := word.Get(w.frame, 0, 2)
	switch {
	case field == AllStations:
		w.At += 2
	case w.link.ACFC:
	case !ok:
		panic(api.ErrFrameShort)
	default:
		panic(api.ErrFrameAddress)
	}
}

// Protocol finds the protocol in the field at the place reached, and goes behind it.
func (w *Walk) Protocol() {
	w.Proto = w.take(1)
	if w.Proto%2 != 0 {
		if !w.link.PFC {
			panic(api.ErrFrameProto)
		}
		return
	}
	w.Proto = w.Proto<<8 | w.take(1)
	if w.Proto%2 == 0 {
		panic(api.ErrFrameProto)
	}
}

// Header finds what a multilink header says, if the frame is a piece, and goes behind it.
func (w *Walk) Header() {
	if w.link.MP == api.MultiOff || w.Proto != api.ProtoMulti {
		return
	}
	lies := LayoutOf(w.link.MP)
	header := w.take(lies.Size)
	if header&lies.Zero != 0 {
		panic(api.ErrFrameMulti)
	}
	w.Multi, w.Begin, w.End, w.Seq = true, header&lies.Begin != 0, header&lies.End != 0, header&lies.Seq
}

// Inner finds the protocol of which a piece is the beginning.
func (w *Walk) Inner() {
	if w.Begin {
		w.Protocol()
	}
}

// Network finds what the header of IP or IP6 says. A piece that is no beginning has none: its protocol is ProtoMulti.
func (w *Walk) Network() {
	switch w.Proto {
	case api.ProtoIP:
		w.ip()
	case api.ProtoIP6:
		w.ip6()
	}
}

func (w *Walk) ip() {
	w.need(SizeIP)
	version, words := w.halves()
	if version != 4 || 4*words < SizeIP {
		panic(api.ErrFrameIP)
	}
	w.need(4 * words)
	w.Net, w.Next = 4, int(w.read(9, 1))
	if offset := w.read(6, 2) & 0x1fff; offset == 0 {
		w.Load = w.At + 4*words
	}
}

func (w *Walk) ip6() {
	w.need(SizeIP6)
	if version, _ := w.halves(); version != 6 {
		panic(api.ErrFrameIP)
	}
	w.Net, w.Next, w.Load = 6, int(w.read(6, 1)), w.At+SizeIP6
}

// halves tells the two halves of the byte at the place reached.
func (w *Walk) halves() (high, low int) {
	v := int(w.read(0, 1))
	return v >> 4, v & 15
}

// need asks that so many bytes stand from the place reached on.
func (w *Walk) need(count int) {
	if len(w.frame)-w.At < count {
		panic(api.ErrFrameShort)
	}
}

// read tells the number that size bytes say, which begin so far behind the place reached.
func (w *Walk) read(behind, size int) uint32 {
	v, ok := word.Get(w.frame, w.At+behind, size)
	if !ok {
		panic(api.ErrFrameShort)
	}
	return v
}

// take reads the next bytes and goes behind them.
func (w *Walk) take(size int) uint32 {
	v := w.read(0, size)
	w.At += size
	return v
}
