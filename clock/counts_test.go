package clock

import (
	"testing"

	"riddle/api"
)

// ahead is a clock that goes, as if it had ticked so often: in a test no clock ticks till its counts stop.
func ahead(idle uint32, most uint32, idleCount uint32, allCount uint32) *Clock {
	c := New(idle, most)
	c.Start()
	c.idleTicks.count, c.allTicks.count = idleCount, allCount
	return c
}

// ticks holds what one tick tells, and what stands behind it.
func ticks(t *testing.T, c *Clock, want int, wantGoes bool, wantIdle uint32, wantAll uint32) {
	t.Helper()
	why := c.Tick()
	goes, idle, all := c.Now()
	if why != want || goes != wantGoes || idle != wantIdle || all != wantAll {
		t.Errorf("P22.2: Tick() = %d, Now() = %v, %d, %d; want %d, %v, %d, %d", why, goes, idle, all, want, wantGoes, wantIdle, wantAll)
	}
}

func TestCountsStop(t *testing.T) {
	const top = api.MaxCount
	c := ahead(0, 0, top-2, top-2)
	ticks(t, c, api.HangNone, true, top-1, top-1)
	for range 4 {
		ticks(t, c, api.HangNone, true, top, top)
	}
	c.Touch()
	ticks(t, c, api.HangNone, true, 1, top)
	ticks(t, c, api.HangNone, true, 2, top)
	c.Start()
	ticks(t, c, api.HangNone, true, 1, 1)
}

// The count of all stops, that of idle ticks goes on, and is told all the same.
func TestIdleBehindTheGreatestCount(t *testing.T) {
	c := ahead(3, 0, 0, api.MaxCount-1)
	ticks(t, c, api.HangNone, true, 1, api.MaxCount)
	ticks(t, c, api.HangNone, true, 2, api.MaxCount)
	ticks(t, c, api.HangIdle, false, 0, 0)
	ticks(t, c, api.HangNone, false, 0, 0)
}

// A great limit is reached at its tick, not ahead of it, not behind it; the greatest one too.
func TestGreatLimitsAreReached(t *testing.T) {
	for _, n := range []uint32{70_000, 1 << 24, 1<<24 + 1, 1<<31 - 1, 1 << 31, 1<<31 + 1, api.MaxCount - 1, api.MaxCount} {
		c := ahead(n, 0, n-2, n-2)
		ticks(t, c, api.HangNone, true, n-1, n-1)
		ticks(t, c, api.HangIdle, false, 0, 0)
		c = ahead(0, n, n-2, n-2)
		ticks(t, c, api.HangNone, true, n-1, n-1)
		ticks(t, c, api.HangMost, false, 0, 0)
		c = ahead(n, n, n-2, n-2)
		ticks(t, c, api.HangNone, true, n-1, n-1)
		ticks(t, c, api.HangIdle, false, 0, 0)
		c = ahead(n, n, n-2, n-2)
		c.Touch()
		ticks(t, c, api.HangNone, true, 1, n-1)
		ticks(t, c, api.HangMost, false, 0, 0)
	}
}

// The greatest limit beside counts that stop at it.
func TestTheGreatestLimit(t *testing.T) {
	const top = api.MaxCount
	ticks(t, ahead(top, 0, top-1, top), api.HangIdle, false, 0, 0)
	ticks(t, ahead(0, top, top-1, top-1), api.HangMost, false, 0, 0)
	ticks(t, ahead(0, top, 0, top-1), api.HangMost, false, 0, 0)
	ticks(t, ahead(top, top, top-1, top-1), api.HangIdle, false, 0, 0)
	ticks(t, ahead(top, top, top-2, top-2), api.HangNone, true, top-1, top-1)
}
