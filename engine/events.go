package engine

import (
	"riddle/api"
	"riddle/frame"
)

// deed is what the engine does at events of a kind, and which of an event's fields it uses.
type deed struct {
	does  func(*Engine, api.Event) api.Out
	frame bool
	link  bool
}

// deeds tells the deed of each kind.
func deeds() [api.EventTake + 1]deed {
	return [...]deed{
		api.EventIn:   {does: (*Engine).in, frame: true},
		api.EventOut:  {does: (*Engine).out, frame: true},
		api.EventTick: {does: (*Engine).tick},
		api.EventUp:   {does: (*Engine).up, link: true},
		api.EventDown: {does: (*Engine).down},
		api.EventTake: {does: (*Engine).take},
	}
}

// deedOf tells the deed of a kind, and whether there is one.
func deedOf(kind int) (deed, bool) {
	all := deeds()
	if kind < 0 || kind >= len(all) {
		return deed{}, false
	}
	return all[kind], all[kind].does != nil
}

// fits tells whether an event has nothing of which the deed makes no use.
func (d deed) fits(v api.Event) bool {
	return (d.frame || len(v.Frame) == 0) && (d.link || v.Link == api.Link{})
}

// refused tells why an event of a kind that is known may not happen: its link may not be, or the link is up already.
func (e *Engine) refused(v api.Event) api.Errno {
	switch {
	case v.Kind != api.EventUp:
		return api.OK
	case frame.Check(v.Link) != api.OK:
		return api.ErrEngineLink
	case e.phase == api.PhaseUp:
		return api.ErrEngineUp
	}
	return api.OK
}

func (e *Engine) in(v api.Event) api.Out {
	return api.Out{Fate: e.receive(v.Frame)}
}

func (e *Engine) out(v api.Event) api.Out {
	switch {
	case e.phase == api.PhaseUp:
		return api.Out{Fate: e.send(v.Frame)}
	case len(v.Frame) > api.MaxFrame:
		return api.Out{Fate: e.drop(api.WhyLong, 0)}
	case e.phase == api.PhaseDown:
		return e.dial(v.Frame)
	case !e.passes(api.WayOut, v.Frame):
		return api.Out{Fate: e.drop(api.WhyPass, 0)}
	}
	return api.Out{Fate: e.hold(v.Frame)}
}

// tick needs not ask for the phase: while the link is not up, the clock stands, and tells no reason to hang up.
func (e *Engine) tick(api.Event) api.Out {
	why := e.Tick()
	switch why {
	case api.HangNone:
		return api.Out{}
	case api.HangIdle:
		grow(&e.counts.Idles, 1)
	case api.HangMost:
		grow(&e.counts.Mosts, 1)
	}
	e.hangUp()
	return api.Out{Hang: why}
}

func (e *Engine) up(v api.Event) api.Out {
	e.phase, e.link = api.PhaseUp, v.Link
	e.Start()
	return api.Out{Held: e.sendHeld()}
}

// down hangs up; a link that is down already has nothing that could be lost.
func (e *Engine) down(api.Event) api.Out {
	e.hangUp()
	return api.Out{}
}

func (e *Engine) take(api.Event) api.Out {
	class, b, ok := e.Take()
	if !ok {
		return api.Out{}
	}
	grow(&e.counts.Taken, 1)
	return api.Out{Fate: api.Fate{Kind: api.FateTaken, Class: class}, Frame: b}
}

// hangUp loses all frames that wait.
func (e *Engine) hangUp() {
	grow(&e.counts.Lost, len(e.Drain())+len(e.held))
	e.held = nil
	e.Stop()
	e.phase, e.link = api.PhaseDown, api.Link{}
}
