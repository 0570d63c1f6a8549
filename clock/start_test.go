package clock_test

import (
	"strings"
	"testing"

	"riddle/api"
	"riddle/clock"
)

// Whatever its limits, a clock stands at first; what ticks or is touched then changes nothing.
func TestNewStands(t *testing.T) {
	for _, idle := range limits() {
		for _, most := range limits() {
			c := of(t, idle, most)
			for range 7 {
				tick(t, c, api.HangNone)
				stands(t, c)
				c.Touch()
				stands(t, c)
			}
			c.Stop()
			stands(t, c)
			c.Start()
			goes(t, c, 0, 0)
		}
	}
}

// Ticks ahead of Start count for nothing behind it.
func TestTicksAheadOfStart(t *testing.T) {
	for _, calls := range []string{".", "..", "T.", ".T.T.", "P..", strings.Repeat(".", 100)} {
		c := of(t, 2, 3)
		play(c, calls)
		plays(t, c, "S.", "-")
		goes(t, c, 1, 1)
		plays(t, c, ".", "i")
	}
}

// Start of a clock that goes begins both counts again, and lets it go on.
func TestStartAgain(t *testing.T) {
	for _, c := range []*clock.Clock{of(t, 0, 0), of(t, 3, 0), of(t, 0, 3), of(t, 3, 3), of(t, api.MaxCount, api.MaxCount)} {
		c.Start()
		for range 5 {
			for range 2 {
				c.Start()
				goes(t, c, 0, 0)
			}
			plays(t, c, ".", "-")
			goes(t, c, 1, 1)
			plays(t, c, "T.", "-")
			goes(t, c, 1, 2)
		}
	}
	c := of(t, 1, 0)
	plays(t, c, "SS.", "i")
	c = of(t, 3, 0)
	plays(t, c, "S..S..S..S...", "--------i")
	c = of(t, 0, 3)
	plays(t, c, "S..S..TS..S...", "--------m")
}

// Stop lets it stand, its counts 0, also if it stands already; the limits stay for the next Start.
func TestStop(t *testing.T) {
	for _, calls := range []string{"P", "SP", "S.P", "S..P", "S.T.P", "S..PP", "SPP", "S..P..", "S..PT", "S..PT.T", "S..P....P"} {
		c := of(t, 3, 4)
		if told := play(c, calls); strings.Trim(told, "-") != "" {
			t.Errorf("P22.2: %s tells %s", calls, told)
		}
		stands(t, c)
		plays(t, c, "S..", "--")
		goes(t, c, 2, 2)
		plays(t, c, ".", "i")
		plays(t, c, "S.T.T.", "---")
		goes(t, c, 1, 3)
		plays(t, c, ".", "m")
	}
}

// Touch begins the count of idle ticks again, not that of all, and starts and stops nothing.
func TestTouch(t *testing.T) {
	c := of(t, 3, 0)
	c.Start()
	c.Touch()
	goes(t, c, 0, 0)
	plays(t, c, "..", "--")
	goes(t, c, 2, 2)
	c.Touch()
	goes(t, c, 0, 2)
	c.Touch()
	goes(t, c, 0, 2)
	plays(t, c, "..", "--")
	goes(t, c, 2, 4)
	plays(t, c, "T..", "--")
	goes(t, c, 2, 6)
	plays(t, c, ".", "i")
	stands(t, c)
	c.Touch()
	stands(t, c)
	plays(t, c, "...", "---")
	stands(t, c)
}
