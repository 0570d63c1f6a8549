package engine

import (
	"riddle/api"
	"riddle/word"
)

// The engine's link may be, and so may both ways: no call of the plan is refused here, nor is one of the queue.

// passes tells whether a frame may go over the engine's link.
func (e *Engine) passes(way int, b []byte) bool {
	yes, _ := e.Pass(e.link, way, b)
	return yes
}

// notice lets the clock know of a frame that keeps the link up, whatever becomes of it then.
func (e *Engine) notice(way int, b []byte) {
	if yes, _ := e.Active(e.link, way, b); yes {
		e.Touch()
	}
}

// receive takes a frame from the link.
func (e *Engine) receive(b []byte) api.Fate {
	switch {
	case len(b) > api.MaxFrame:
		return e.drop(api.WhyLong, 0)
	case e.phase != api.PhaseUp:
		return e.drop(api.WhyDown, 0)
	case !e.passes(api.WayIn, b):
		return e.drop(api.WhyPass, 0)
	}
	e.notice(api.WayIn, b)
	grow(&e.counts.Forward, 1)
	return api.Fate{Kind: api.FateForward}
}

// send lets a frame wait for the link, which is up, in its class.
func (e *Engine) send(b []byte) api.Fate {
	switch {
	case len(b) > api.MaxFrame:
		return e.drop(api.WhyLong, 0)
	case !e.passes(api.WayOut, b):
		return e.drop(api.WhyPass, 0)
	}
	e.notice(api.WayOut, b)
	class, _ := e.Class(e.link, b)
	if fits, _ := e.Put(class, b); !fits {
		return e.drop(api.WhyFull, class)
	}
	grow(&e.counts.Queued, 1)
	return api.Fate{Kind: api.FateQueue, Class: class}
}

// sendHeld sends the frames that were held, in their order, and tells their fates.
func (e *Engine) sendHeld() []api.Fate {
	var fates []api.Fate
	for _, b := range e.held {
		fates = append(fates, e.send(b))
	}
	e.held = nil
	return fates
}

// dial dials the link, which is down, if a frame demands it; whether the frame passes is asked when the link is up.
func (e *Engine) dial(b []byte) api.Out {
	if yes, _ := e.Demand(b); !yes {
		return api.Out{Fate: e.drop(api.WhyDown, 0)}
	}
	e.phase = api.PhaseDial
	grow(&e.counts.Dials, 1)
	return api.Out{Dial: true, Fate: e.hold(b)}
}

// hold keeps a copy of a frame till the link is up.
func (e *Engine) hold(b []byte) api.Fate {
	if len(e.held) >= e.mostHeld {
		return e.drop(api.WhyHold, 0)
	}
	e.held = append(e.held, word.Join(b))
	grow(&e.counts.Held, 1)
	return api.Fate{Kind: api.FateHold}
}

// drop counts a frame that is dropped, with the reason.
func (e *Engine) drop(why int, class int) api.Fate {
	switch why {
	case api.WhyLong:
		grow(&e.counts.Long, 1)
	case api.WhyDown:
		grow(&e.counts.Down, 1)
	case api.WhyPass:
		grow(&e.counts.Pass, 1)
	case api.WhyFull:
		grow(&e.counts.Full, 1)
	case api.WhyHold:
		grow(&e.counts.Hold, 1)
	}
	return api.Fate{Kind: api.FateDrop, Why: why, Class: class}
}

// grow lets a count grow by so many; it stops at api.MaxCount.
func grow(count *uint32, by int) {
	*count = word.Sum(*count, uint32(by))
}
