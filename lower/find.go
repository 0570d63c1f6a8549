package lower

import (
	"riddle/api"
	"riddle/walk"
)

// The scratch words. What the walk over a frame does not come to stays 0, as all words are at first; places are those of the packet.
const (
	wordLen   = iota // how many bytes the frame has
	wordProto        // the protocol
	wordPiece        // 1, if the frame is a piece
	wordAt           // where the load begins
	wordNet          // 4, 6 or 0
	wordNext         // what IP carries
	wordLoad         // where that begins; 0, if it does not begin in this frame
	wordSpare        // from here on: what the parts of numbers come to
)

// begins is where a frame begins in its packet: behind the way.
const begins = 1

// find lays the blocks that walk over a frame, with the place reached in X, and tells the goal of those at which all is found. That bytes are missing is a fault of the load that asks for them.
func (b *builder) find(l api.Link) goal {
	b.begin()
	b.lay(do(api.LdLen, 0), do(api.SubK, begins), do(api.St, wordLen))
	b.address(l.ACFC)
	b.protocol(l.PFC)
	if l.MP != api.MultiOff {
		b.header(walk.LayoutOf(l.MP), l.PFC)
	}
	return b.network()
}

func (b *builder) address(acfc bool) {
	if !acfc {
		b.must(b.stations())
		return
	}
	// A has the frame's length: the load in stations must not be a fault where nothing has to be there.
	enough := b.ask(do(api.JgeK, 2))
	b.begin(enough.yes)
	there := b.stations()
	b.begin(enough.no, there.no)
	b.lay(do(api.LdxImm, begins))
	b.begin(there.yes, b.leave())
}

// stations asks for address and control, and goes behind them.
func (b *builder) stations() truth {
	b.lay(do(api.LdAbsH, begins), do(api.LdxImm, begins+2))
	return b.ask(do(api.JeqK, walk.AllStations))
}

func (b *builder) protocol(pfc bool) {
	b.lay(do(api.LdIndB, 0))
	narrow := b.ask(do(api.JsetK, 1))
	b.begin(narrow.no)
	b.lay(do(api.LdIndH, 0))
	b.must(b.ask(do(api.JsetK, 1)))
	b.speaks(2)
	if !pfc {
		b.wrong = append(b.wrong, narrow.yes)
		return
	}
	wide := b.leave()
	b.begin(narrow.yes)
	b.speaks(1)
	b.begin(wide, b.leave())
}

// speaks keeps the protocol, which is in A, and goes behind its field.
func (b *builder) speaks(size uint32) {
	b.lay(do(api.St, wordProto))
	b.skip(size)
}

// skip goes so many bytes further.
func (b *builder) skip(size uint32) {
	b.lay(do(api.Txa, 0), do(api.AddK, size), do(api.Tax, 0))
}

// header reads the multilink header of a piece, and the protocol behind it, if the piece is a beginning.
func (b *builder) header(lies walk.Layout, pfc bool) {
	b.lay(do(api.LdMem, wordProto))
	piece := b.ask(do(api.JeqK, api.ProtoMulti))
	b.begin(piece.yes)
	b.lay(do(api.LdImm, 1), do(api.St, wordPiece), do(reads(lies.Size), 0))
	b.must(other(b.ask(do(api.JsetK, lies.Zero))))
	starts := b.ask(do(api.JsetK, lies.Begin))
	b.begin(starts.yes)
	b.skip(uint32(lies.Size))
	b.protocol(pfc)
	// Where the load of another piece begins, nothing asks: X may stay behind.
	b.begin(piece.no, starts.no, b.leave())
}

// network keeps where the load begins, and looks into the headers of IP and IP6. A piece that is no beginning has none: its protocol is ProtoMulti.
func (b *builder) network() goal {
	b.lay(do(api.Stx, wordAt), do(api.LdMem, wordProto))
	ip := b.ask(do(api.JeqK, api.ProtoIP))
	b.begin(ip.no)
	ip6 := b.ask(do(api.JeqK, api.ProtoIP6))
	b.begin(ip.yes)
	four := b.ip()
	b.begin(ip6.yes)
	six := b.ip6()
	return joined(ip6.no, four, six)
}

// The first byte of a header of IP: a 4, and how many words of 4 bytes the header has.
const (
	leastIP = 4<<4 | walk.SizeIP/4
	mostIP  = 4<<4 | 15
)

func (b *builder) ip() goal {
	b.lay(do(api.LdIndB, 0), do(api.SubK, leastIP))
	b.must(other(b.ask(do(api.JgtK, mostIP-leastIP))))
	b.lay(do(api.AddK, walk.SizeIP/4), do(api.LshK, 2), do(api.AddX, 0), do(api.St, wordLoad))
	// The header is all there, if its last byte is.
	b.lay(do(api.SubK, 1), do(api.Tax, 0), do(api.LdIndB, 0))
	b.lay(do(api.LdxMem, wordAt), do(api.LdIndB, 9), do(api.St, wordNext))
	b.lay(do(api.LdImm, 4), do(api.St, wordNet), do(api.LdIndH, 6))
	later := b.ask(do(api.JsetK, 0x1fff))
	b.begin(later.yes)
	b.lay(do(api.LdImm, 0), do(api.St, wordLoad))
	return joined(later.no, b.leave())
}

func (b *builder) ip6() goal {
	b.lay(do(api.LdIndB, walk.SizeIP6-1), do(api.LdIndB, 0), do(api.RshK, 4))
	b.must(b.ask(do(api.JeqK, 6)))
	b.lay(do(api.LdIndB, 6), do(api.St, wordNext), do(api.LdImm, 6), do(api.St, wordNet))
	b.lay(do(api.Txa, 0), do(api.AddK, walk.SizeIP6), do(api.St, wordLoad))
	return b.leave()
}
