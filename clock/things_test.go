package clock_test

import (
	"testing"

	"riddle/api"
	"riddle/clock"
)

// limits at and between the bounds; the small ones are reached in a few ticks.
func limits() []uint32 {
	return []uint32{0, 1, 2, 3, 5, 255, 65536, 1 << 31, api.MaxCount - 1, api.MaxCount}
}

// of tells a clock that stands.
func of(t testing.TB, idle uint32, most uint32) *clock.Clock {
	t.Helper()
	c := clock.New(idle, most)
	if c == nil {
		t.Fatalf("P22.1: New(%d, %d) = nil", idle, most)
	}
	stands(t, c)
	return c
}

// now holds what Now tells, each time that it is asked.
func now(t testing.TB, c *clock.Clock, wantGoes bool, wantIdle uint32, wantAll uint32) {
	t.Helper()
	for range 2 {
		if goes, idle, all := c.Now(); goes != wantGoes || idle != wantIdle || all != wantAll {
			t.Fatalf("P22.3: Now() = %v, %d, %d; want %v, %d, %d", goes, idle, all, wantGoes, wantIdle, wantAll)
		}
	}
}

func goes(t testing.TB, c *clock.Clock, idle uint32, all uint32) {
	t.Helper()
	now(t, c, true, idle, all)
}

func stands(t testing.TB, c *clock.Clock) {
	t.Helper()
	now(t, c, false, 0, 0)
}

// tick holds what one tick tells.
func tick(t testing.TB, c *clock.Clock, want int) {
	t.Helper()
	if got := c.Tick(); got != want {
		t.Fatalf("P22.2: Tick() = %d; want %d", got, want)
	}
}

// one does the call of a letter (S Start, P Stop, T Touch, . Tick), and tells what it answers: a tick a letter (- none, i idle, m most), any other nothing.
func one(c *clock.Clock, call byte) string {
	switch call {
	case 'S':
		c.Start()
	case 'P':
		c.Stop()
	case 'T':
		c.Touch()
	default:
		return letter(c.Tick())
	}
	return ""
}

func letter(why int) string {
	switch why {
	case api.HangNone:
		return "-"
	case api.HangIdle:
		return "i"
	case api.HangMost:
		return "m"
	}
	return "?"
}

// play does calls by their letters, and tells what the ticks told.
func play(c *clock.Clock, calls string) string {
	told := ""
	for at := range len(calls) {
		told += one(c, calls[at])
	}
	return told
}

// plays holds what the ticks of calls tell.
func plays(t testing.TB, c *clock.Clock, calls string, want string) {
	t.Helper()
	if got := play(c, calls); got != want {
		t.Fatalf("P22.2: %s tells %s; want %s", calls, got, want)
	}
}
