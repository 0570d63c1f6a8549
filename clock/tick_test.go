package clock_test

import (
	"testing"

	"riddle/api"
)

func TestExamples(t *testing.T) {
	c := of(t, 2, 0)
	tick(t, c, api.HangNone)
	c.Start()
	tick(t, c, api.HangNone)
	c.Touch()
	tick(t, c, api.HangNone)
	tick(t, c, api.HangIdle)
	stands(t, c)
	plays(t, of(t, 0, 2), "S.T.", "-m")
	plays(t, of(t, 2, 2), "S..", "-i")
}

// The calls that README.md shows.
func TestReadme(t *testing.T) {
	c := of(t, 300, 7200)
	plays(t, c, "ST.", "-")
	goes(t, c, 1, 1)
}

// Each limit beside each: the lesser one is reached, idleness is told where both are.
func TestLimitsBesideEachOther(t *testing.T) {
	const ticks = 7
	for _, idle := range limits() {
		for _, most := range limits() {
			c := of(t, idle, most)
			for range 3 {
				c.Start()
				up := true
				for n := uint32(1); n <= ticks; n++ {
					switch {
					case up && n == idle:
						tick(t, c, api.HangIdle)
						up = false
					case up && n == most:
						tick(t, c, api.HangMost)
						up = false
					default:
						tick(t, c, api.HangNone)
					}
					if up {
						goes(t, c, n, n)
					} else {
						stands(t, c)
					}
				}
			}
		}
	}
}

// Touched ahead of each tick, a clock is idle just if one tick is too much; the limit of all is reached all the same.
func TestTouchedAheadOfEachTick(t *testing.T) {
	const ticks = 7
	for _, idle := range limits() {
		for _, most := range limits() {
			c := of(t, idle, most)
			c.Start()
			up := true
			for n := uint32(1); n <= ticks; n++ {
				c.Touch()
				switch {
				case up && idle == 1:
					tick(t, c, api.HangIdle)
					up = false
				case up && n == most:
					tick(t, c, api.HangMost)
					up = false
				default:
					tick(t, c, api.HangNone)
				}
				if up {
					goes(t, c, 1, n)
				} else {
					stands(t, c)
				}
			}
		}
	}
}

// A touch at the last moment puts idleness off by the whole limit, time and again.
func TestTouchedAtTheLastMoment(t *testing.T) {
	for _, idle := range []uint32{2, 3, 5, 64, 255, 256, 257} {
		c := of(t, idle, 0)
		c.Start()
		for round := range uint32(5) {
			for n := range idle - 1 {
				tick(t, c, api.HangNone)
				goes(t, c, n+1, round*(idle-1)+n+1)
			}
			c.Touch()
			goes(t, c, 0, (round+1)*(idle-1))
		}
		for range idle - 1 {
			tick(t, c, api.HangNone)
		}
		tick(t, c, api.HangIdle)
		stands(t, c)
	}
}

// Both limits at one tick, though the counts are not the same.
func TestBothAtOneTick(t *testing.T) {
	plays(t, of(t, 1, 1), "S.", "i")
	plays(t, of(t, 5, 5), "S.....", "----i")
	plays(t, of(t, 2, 5), "S.T.T.T..", "----i")
	plays(t, of(t, 3, 5), "S..T...", "----i")
	plays(t, of(t, 1, 5), "ST.", "i")
	// One tick earlier, and one later.
	plays(t, of(t, 2, 6), "S.T.T.T..", "----i")
	plays(t, of(t, 2, 4), "S.T.T.T.", "---m")
	plays(t, of(t, 3, 5), "S.T...", "---i")
	plays(t, of(t, 3, 5), "S...", "--i")
	plays(t, of(t, 3, 5), "S..T.T..", "----m")
}

// Behind a hang-up the clock stands; Start lets it go again with the same limits.
func TestBehindAHangUp(t *testing.T) {
	for _, x := range []struct {
		idle, most uint32
		calls      string
		want       string
	}{
		{2, 0, "S..", "-i"}, {0, 2, "S..", "-m"}, {2, 2, "S..", "-i"}, {2, 3, "S.T..", "--i"}, {2, 3, "S.T.T.", "--m"}, {1, 0, "S.", "i"}, {0, 1, "S.", "m"},
	} {
		for _, behind := range []string{"", ".", "....", "T", "T.T.T.", "P", "P..", ".P.T."} {
			c := of(t, x.idle, x.most)
			for range 3 {
				plays(t, c, x.calls, x.want)
				stands(t, c)
				for at := range len(behind) {
					if told := one(c, behind[at]); told != "" && told != "-" {
						t.Fatalf("P22.2: behind %s: %s tells %s", x.calls, behind, told)
					}
					stands(t, c)
				}
				c.Start()
				goes(t, c, 0, 0)
			}
		}
	}
}

// A clock without limits goes on till it is stopped.
func TestNoLimits(t *testing.T) {
	c := of(t, 0, 0)
	c.Start()
	for n := range uint32(100_000) {
		tick(t, c, api.HangNone)
		goes(t, c, n+1, n+1)
	}
	c.Touch()
	goes(t, c, 0, 100_000)
	tick(t, c, api.HangNone)
	goes(t, c, 1, 100_001)
	c.Stop()
	stands(t, c)
	tick(t, c, api.HangNone)
	stands(t, c)
}
