package bundle

import (
	"riddle/api"
	"riddle/frame"
	"riddle/walk"
)

// order is a place in the row of a link's numbers: the next one, and the last one, behind which 0 comes again.
type order struct {
	next, last uint32
}

// orderFrom refuses links without multilink, and numbers that are not in their space.
func orderFrom(l api.Link, next uint32) (order, api.Errno) {
	if frame.Check(l) != api.OK || l.MP == api.MultiOff {
		return order{}, api.ErrBundleLink
	}
	last := walk.LayoutOf(l.MP).Seq
	if next > last {
		return order{}, api.ErrBundleSize
	}
	return order{next, last}, api.OK
}

// pass goes behind a number, and tells whether it was the next one.
func (o *order) pass(seq uint32) bool {
	inOrder := seq == o.next
	o.next = (seq + 1) & o.last
	return inOrder
}
