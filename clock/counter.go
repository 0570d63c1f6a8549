package clock

import "riddle/word"

// counter counts ticks; it stops at api.MaxCount.
type counter struct {
	count uint32
	limit uint32
}

func (c *counter) grow() {
	c.count = word.Sum(c.count, 1)
}

func (c *counter) reset() {
	c.count = 0
}

// full tells whether the limit is reached; 0 is none.
func (c *counter) full() bool {
	return c.limit != 0 && c.count >= c.limit
}

// A struct embeds one type only once, so each of a clock's two counters has a type of its own, to which the counter's methods are promoted.

// idleTicks counts the ticks since the last Start or Touch.
type idleTicks struct {
	counter
}

// allTicks counts the ticks since the last Start.
type allTicks struct {
	counter
}
