package walk

import (
	"riddle/api"
	"riddle/word"
)

// Layout is how a multilink header lies in its bytes: which bits say what, and which must be 0.
type Layout struct {
	Size                  int
	Begin, End, Zero, Seq uint32
}

// LayoutOf tells the layout of the headers of a link with multilink.
func LayoutOf(mp int) Layout {
	if mp == api.MultiShort {
		return Layout{Size: 2, Begin: 1 << 15, End: 1 << 14, Zero: 3 << 12, Seq: 1<<12 - 1}
	}
	return Layout{Size: 4, Begin: 1 << 31, End: 1 << 30, Zero: 63 << 24, Seq: 1<<24 - 1}
}

// Header tells a header's bytes.
func (lies Layout) Header(begin, end bool, seq uint32) []byte {
	header := seq
	if begin {
		header |= lies.Begin
	}
	if end {
		header |= lies.End
	}
	b, _ := word.Put(make([]byte, lies.Size), 0, lies.Size, header)
	return b
}

// Ends is where the addresses lie in a header of IP or IP6, from its beginning on, and how many bytes each has.
type Ends struct {
	Src, Dst, Size int
}

// EndsOf tells the ends of api.OfIP or api.OfIP6.
func EndsOf(of int) Ends {
	if of == api.OfIP {
		return Ends{Src: 12, Dst: 16, Size: 4}
	}
	return Ends{Src: 8, Dst: 24, Size: 16}
}
