package bundle

import (
	"riddle/api"
	"riddle/walk"
	"riddle/word"
)

const (
	// mostChunk leaves room for what stands ahead of a chunk in the longest piece.
	mostChunk  = api.MaxFrame - 8
	mostPieces = 4096
)

// Split cuts a load into pieces with at most so many of its bytes each, numbered from first on.
func Split(l api.Link, b []byte, most int, first uint32) ([][]byte, api.Errno) {
	o, e := orderFrom(l, first)
	switch {
	case e != api.OK:
		return nil, e
	case most < 1 || most > mostChunk:
		return nil, api.ErrBundleSize
	case len(b) > api.MaxFrame:
		return nil, api.ErrBundleLong
	case len(b) > mostPieces*most:
		return nil, api.ErrBundleMany
	}
	ahead, _ := word.Put(make([]byte, 4), 0, 4, walk.AllStations<<16|api.ProtoMulti)
	lies := walk.LayoutOf(l.MP)
	var pieces [][]byte
	// Of no bytes there is one piece too.
	for at := 0; at == 0 || at < len(b); at += most {
		end := min(at+most, len(b))
		header := lies.Header(at == 0, end == len(b), o.next)
		pieces = append(pieces, word.Join(ahead, header, b[at:end]))
		o.pass(o.next)
	}
	return pieces, api.OK
}
