package queue

import "riddle/word"

// drops counts frames that were dropped; it stops at api.MaxCount.
type drops struct {
	count uint32
}

func (d *drops) drop() {
	d.count = word.Sum(d.count, 1)
}

func (d *drops) dropped() uint32 {
	return d.count
}

// class is frames that wait, the first one ahead, at most depth of them.
type class struct {
	drops
	depth int
	held  [][]byte
}

// put lets a copy of b wait behind the others, or drops it where there is no room.
func (c *class) put(b []byte) bool {
	if len(c.held) >= c.depth {
		c.drop()
		return false
	}
	c.held = append(c.held, word.Join(b))
	return true
}

// take gives the first frame away, and whether there is one.
func (c *class) take() ([]byte, bool) {
	if len(c.held) == 0 {
		return nil, false
	}
	first := c.held[0]
	// The place stays in the list's memory for a while: it must not keep alive what was given away.
	c.held[0] = nil
	c.held = c.held[1:]
	return first, true
}

// drain gives all frames away.
func (c *class) drain() [][]byte {
	all := c.held
	c.held = nil
	return all
}
