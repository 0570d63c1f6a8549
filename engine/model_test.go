package engine_test

import (
	"slices"
	"testing"

	"riddle/api"
	"riddle/engine"
	"riddle/mean"
)

// model does what the chapter says, by mean alone. It asks for nothing that the engine is made of.
type model struct {
	p          api.Policy
	counts     api.Counts
	phase      int
	link       api.Link
	idle, conn uint32
	held       [][]byte
	waits      [][][]byte
}

func modelOf(p api.Policy, from api.Counts) *model {
	return &model{p: copied(p), counts: from, waits: make([][][]byte, len(p.Classes)+1)}
}

func more(count *uint32, by int) {
	*count = uint32(min(uint64(*count)+uint64(by), top))
}

func (m *model) matches(filter []api.Node, l api.Link, way int, b []byte) bool {
	yes, e := mean.Match(filter, l, way, b)
	if e != api.OK {
		panic("no filter")
	}
	return yes
}

func (m *model) passes(way int, b []byte) bool {
	return len(m.p.Pass) == 0 || m.matches(m.p.Pass, m.link, way, b)
}

func (m *model) touch(way int, b []byte) {
	if len(m.p.Active) == 0 || m.matches(m.p.Active, m.link, way, b) {
		m.idle = 0
	}
}

func (m *model) drop(count *uint32, why int) api.Fate {
	more(count, 1)
	return api.Fate{Kind: api.FateDrop, Why: why}
}

func (m *model) class(b []byte) int {
	for n, c := range m.p.Classes {
		if m.matches(c.Tree, m.link, api.WayOut, b) {
			return n
		}
	}
	return len(m.p.Classes)
}

func (m *model) depth(class int) int {
	if class == len(m.p.Classes) {
		return m.p.Rest
	}
	return m.p.Classes[class].Depth
}

func (m *model) send(b []byte) api.Fate {
	if len(b) > 65535 {
		return m.drop(&m.counts.Long, api.WhyLong)
	}
	if !m.passes(api.WayOut, b) {
		return m.drop(&m.counts.Pass, api.WhyPass)
	}
	m.touch(api.WayOut, b)
	c := m.class(b)
	if len(m.waits[c]) >= m.depth(c) {
		f := m.drop(&m.counts.Full, api.WhyFull)
		f.Class = c
		return f
	}
	m.waits[c] = append(m.waits[c], slices.Clone(b))
	more(&m.counts.Queued, 1)
	return api.Fate{Kind: api.FateQueue, Class: c}
}

func (m *model) receive(b []byte) api.Fate {
	switch {
	case len(b) > 65535:
		return m.drop(&m.counts.Long, api.WhyLong)
	case m.phase != api.PhaseUp:
		return m.drop(&m.counts.Down, api.WhyDown)
	case !m.passes(api.WayIn, b):
		return m.drop(&m.counts.Pass, api.WhyPass)
	}
	m.touch(api.WayIn, b)
	more(&m.counts.Forward, 1)
	return api.Fate{Kind: api.FateForward}
}

func (m *model) hold(b []byte) api.Fate {
	if len(m.held) >= m.p.Hold {
		return m.drop(&m.counts.Hold, api.WhyHold)
	}
	m.held = append(m.held, slices.Clone(b))
	more(&m.counts.Held, 1)
	return api.Fate{Kind: api.FateHold}
}

func (m *model) out(b []byte) api.Out {
	switch {
	case m.phase == api.PhaseUp:
		return api.Out{Fate: m.send(b)}
	case len(b) > 65535:
		return api.Out{Fate: m.drop(&m.counts.Long, api.WhyLong)}
	case m.phase == api.PhaseDial && !m.passes(api.WayOut, b):
		return api.Out{Fate: m.drop(&m.counts.Pass, api.WhyPass)}
	case m.phase == api.PhaseDial:
		return api.Out{Fate: m.hold(b)}
	case len(m.p.Demand) == 0 || !m.matches(m.p.Demand, api.Link{}, api.WayOut, b):
		return api.Out{Fate: m.drop(&m.counts.Down, api.WhyDown)}
	}
	more(&m.counts.Dials, 1)
	m.phase = api.PhaseDial
	return api.Out{Dial: true, Fate: m.hold(b)}
}

func (m *model) hangUp() {
	more(&m.counts.Lost, len(m.held)+m.standing())
	m.phase, m.link, m.idle, m.conn, m.held, m.waits = api.PhaseDown, api.Link{}, 0, 0, nil, make([][][]byte, len(m.waits))
}

// standing tells how many frames the queue holds.
func (m *model) standing() int {
	n := 0
	for _, w := range m.waits {
		n += len(w)
	}
	return n
}

func (m *model) tick() api.Out {
	if m.phase != api.PhaseUp {
		return api.Out{}
	}
	more(&m.idle, 1)
	more(&m.conn, 1)
	if m.p.Idle > 0 && m.idle >= m.p.Idle {
		more(&m.counts.Idles, 1)
		m.hangUp()
		return api.Out{Hang: api.HangIdle}
	}
	if m.p.Most > 0 && m.conn >= m.p.Most {
		more(&m.counts.Mosts, 1)
		m.hangUp()
		return api.Out{Hang: api.HangMost}
	}
	return api.Out{}
}

func (m *model) up(l api.Link) api.Out {
	m.phase, m.link, m.idle, m.conn = api.PhaseUp, l, 0, 0
	was := m.held
	m.held = nil
	var o api.Out
	for _, b := range was {
		o.Held = append(o.Held, m.send(b))
	}
	return o
}

func (m *model) take() api.Out {
	for n, w := range m.waits {
		if len(w) > 0 {
			m.waits[n] = w[1:]
			more(&m.counts.Taken, 1)
			return api.Out{Fate: api.Fate{Kind: api.FateTaken, Class: n}, Frame: w[0]}
		}
	}
	return api.Out{}
}

// refuses tells why an event may not happen.
func (m *model) refuses(v api.Event) api.Errno {
	frame, link := len(v.Frame) > 0, v.Link.ACFC || v.Link.PFC || v.Link.MP != 0
	switch {
	case v.Kind < 1 || v.Kind > 6, frame && v.Kind > 2, link && v.Kind != 4:
		return api.ErrEngineEvent
	case v.Link.MP < 0 || v.Link.MP > 2:
		return api.ErrEngineLink
	case v.Kind == 4 && m.phase == api.PhaseUp:
		return api.ErrEngineUp
	}
	return api.OK
}

func (m *model) do(v api.Event) (api.Out, api.Errno) {
	if e := m.refuses(v); e != api.OK {
		return api.Out{}, e
	}
	switch v.Kind {
	case api.EventIn:
		return api.Out{Fate: m.receive(v.Frame)}, api.OK
	case api.EventOut:
		return m.out(v.Frame), api.OK
	case api.EventTick:
		return m.tick(), api.OK
	case api.EventUp:
		return m.up(v.Link), api.OK
	case api.EventDown:
		if m.phase != api.PhaseDown {
			m.hangUp()
		}
		return api.Out{}, api.OK
	}
	return m.take(), api.OK
}

func (m *model) state() api.State {
	s := api.State{Phase: m.phase, Link: m.link, Idle: m.idle, Conn: m.conn, Held: len(m.held)}
	for _, w := range m.waits {
		s.Lens = append(s.Lens, len(w))
	}
	return s
}

// both is an engine, and the model beside it.
type both struct {
	x *engine.Engine
	m *model
}

func bothOf(t testing.TB, p api.Policy, from api.Counts) *both {
	t.Helper()
	b := &both{of(t, p, from), modelOf(p, from)}
	b.stand(t)
	return b
}

// bothSaid is both of the policy that lines say, with counts from 0.
func bothSaid(t testing.TB, lines ...string) *both {
	t.Helper()
	return bothOf(t, policyOf(t, lines...), api.Counts{})
}

// stand holds what the engine stands at, and has counted, to the model.
func (b *both) stand(t testing.TB) {
	t.Helper()
	if got, want := b.x.State(), b.m.state(); !sameState(got, want) {
		t.Fatalf("P24.4: %s: State %+v; want %+v", told(b.m.p), got, want)
	}
	if got := b.x.Counts(); got != b.m.counts {
		t.Fatalf("P24.4: %s: Counts %+v; want %+v", told(b.m.p), got, b.m.counts)
	}
}

// do holds what the engine does at an event to the model, and what it stands at then.
func (b *both) do(t testing.TB, v api.Event) (api.Out, api.Errno) {
	t.Helper()
	want, why := b.m.do(v)
	got, e := b.x.Do(v)
	if !sameOut(got, want) || e != why {
		t.Fatalf("P24.2: %s: %s: %s, %d; want %s, %d", told(b.m.p), toldEvent(v), toldOut(got), e, toldOut(want), why)
	}
	b.stand(t)
	return got, e
}

// step is an event, and what is told of it.
type step struct {
	v api.Event
	o api.Out
}

// play holds the engine, and the model too, to what a test says.
func (b *both) play(t testing.TB, steps ...step) {
	t.Helper()
	for n, s := range steps {
		if o, e := b.do(t, s.v); !sameOut(o, s.o) || e != api.OK {
			t.Fatalf("P24.2: %s: step %d, %s: %s, %d; want %s", told(b.m.p), n, toldEvent(s.v), toldOut(o), e, toldOut(s.o))
		}
	}
}

// refused holds the engine to an error, by which nothing changes.
func (b *both) refused(t testing.TB, v api.Event, want api.Errno) {
	t.Helper()
	state, counts := b.x.State(), b.x.Counts()
	if o, e := b.do(t, v); !sameOut(o, api.Out{}) || e != want {
		t.Fatalf("P24.2: %s: %s, %d; want nothing, %d", toldEvent(v), toldOut(o), e, want)
	}
	if !sameState(b.x.State(), state) || b.x.Counts() != counts {
		t.Fatalf("P24.2: %s: refused, but something changed: %+v, %+v", toldEvent(v), b.x.State(), b.x.Counts())
	}
}

// counted holds the engine's counts.
func (b *both) counted(t testing.TB, want api.Counts) {
	t.Helper()
	if got := b.x.Counts(); got != want {
		t.Fatalf("P24.4: %s: Counts %+v; want %+v", told(b.m.p), got, want)
	}
}

// stands holds the engine's state.
func (b *both) stands(t testing.TB, want api.State) {
	t.Helper()
	if got := b.x.State(); !sameState(got, want) {
		t.Fatalf("P24.4: %s: State %+v; want %+v", told(b.m.p), got, want)
	}
}
