package engine_test

import (
	"fmt"
	"math/rand"
	"testing"

	"riddle/api"
	"riddle/forge"
	"riddle/parse"
	"riddle/types"
)

// writer writes filters by chance, of such things as the frames of these tests have.
type writer struct{ *rand.Rand }

func (w writer) one(some ...string) string { return some[w.Intn(len(some))] }

func (w writer) number(depth int) string {
	if depth > 0 && w.Intn(2) == 0 {
		return w.one("ppp", "ip", "ip", "udp", "tcp", "lcp") + "[" + w.number(depth-1) + w.one("", ":2") + "]"
	}
	if depth > 0 && w.Intn(3) == 0 {
		return "(" + w.number(depth-1) + w.one(" + ", " - ", " & ", " / ", " % ") + w.number(depth-1) + ")"
	}
	return w.one("len", "0", "1", "2", "3", "8", "9", "53", "28")
}

func (w writer) truth(depth int) string {
	switch pick := w.Intn(10); {
	case depth > 0 && pick < 4:
		return "(" + w.truth(depth-1) + w.one(" and ", " or ") + w.truth(depth-1) + ")"
	case depth > 0 && pick < 5:
		return "not " + w.truth(depth-1)
	case depth > 0 && pick < 6:
		return w.number(depth-1) + w.one(" = ", " != ", " < ", " >= ") + w.number(depth-1)
	}
	return w.one("ip", "ip", "ip6", "tcp", "udp", "udp", "lcp", "mp", "inbound", "outbound", "port 53", "src port 80", "host 1.2.3.4", "net 5.0.0.0/8", "proto 61", "len > 40", "1 = 1")
}

// filter tells a filter by chance.
func (w writer) filter(t testing.TB) []api.Node {
	t.Helper()
	for {
		l, _, place, e := parse.Parse(w.truth(w.Intn(4)))
		if e != api.OK {
			t.Fatalf("no source: %d, %d", place, e)
		}
		// A divisor may have come to be 0.
		if _, e := types.Check(l); e == api.OK {
			return l
		}
	}
}

// policyByChance tells a policy that may be, with small queues, and short times.
func policyByChance(t testing.TB, chance *rand.Rand) api.Policy {
	t.Helper()
	w := writer{chance}
	p := api.Policy{Rest: 1 + w.Intn(6), Hold: w.Intn(6), Idle: uint32(w.Intn(6)), Most: uint32(w.Intn(3) * w.Intn(12))}
	for at, filter := range []*[]api.Node{&p.Pass, &p.Active, &p.Demand} {
		if at == 2 && w.Intn(4) > 0 || w.Intn(3) > 0 {
			*filter = w.filter(t)
		}
	}
	for n := range w.Intn(5) {
		p.Classes = append(p.Classes, api.Class{Name: fmt.Sprintf("c%d", n), Depth: 1 + w.Intn(5), Tree: w.filter(t)})
	}
	return p
}

// frameByChance tells one of many kinds: of some link's shape, or ill formed, or too long.
func frameByChance(chance *rand.Rand) []byte {
	protos := []uint32{api.ProtoIP, api.ProtoIP, api.ProtoIP, api.ProtoIP6, api.ProtoLCP, api.ProtoPAP, 0xfd}
	s := api.Spec{Proto: protos[chance.Intn(len(protos))], Plain: chance.Intn(2) == 0, Wide: chance.Intn(2) == 0, Seq: 7}
	if s.Proto == api.ProtoIP || s.Proto == api.ProtoIP6 {
		s.Next = []int{6, 17, 17, 1, 58}[chance.Intn(5)]
		s.Src, s.Dst = [16]byte{1, 2, 3, 4}, [16]byte{5, 6, 7, byte(chance.Intn(9))}
		s.Ports, s.From, s.To = true, []uint32{53, 80, 5060}[chance.Intn(3)], []uint32{53, 54}[chance.Intn(2)]
	}
	l := links()[chance.Intn(12)]
	if l.MP != api.MultiOff && chance.Intn(3) == 0 {
		s.Multi, s.Begin = true, true
	}
	b, e := forge.Make(l, s)
	switch pick := chance.Intn(40); {
	case e != api.OK || pick == 0:
		return nil
	case pick == 1:
		return b[:chance.Intn(len(b))]
	case pick == 2:
		return with(b, chance.Intn(len(b)), byte(chance.Intn(256)))
	case pick == 3:
		return tooLong()
	}
	return b
}

// eventByChance tells an event of any kind; a few may not happen.
func eventByChance(chance *rand.Rand) api.Event {
	switch pick := chance.Intn(100); {
	case pick < 30:
		return out(frameByChance(chance))
	case pick < 50:
		return in(frameByChance(chance))
	case pick < 70:
		return tick()
	case pick < 85:
		return take()
	case pick < 93:
		return up(links()[chance.Intn(12)])
	case pick < 96:
		return down()
	}
	v := api.Event{Kind: chance.Intn(9) - 1}
	if chance.Intn(2) == 0 {
		v.Frame = frameByChance(chance)
	}
	if chance.Intn(2) == 0 {
		v.Link = append(links(), noLinks()...)[chance.Intn(60)]
	}
	return v
}

func scriptByChance(chance *rand.Rand, count int) []api.Event {
	var out []api.Event
	for range count {
		out = append(out, eventByChance(chance))
	}
	return out
}

// ledger counts for itself what came and was sent from hold, and what was lost out of the queue; and keeps what waits.
type ledger struct {
	came, sent, lost uint32
	waits            [][][]byte
}

// outcomes tells how many frames were counted, by what became of them.
func outcomes(c api.Counts) uint32 {
	return c.Forward + c.Queued + c.Held + c.Long + c.Down + c.Pass + c.Full + c.Hold
}

// balanced holds what P24.5 says of the counts to what came and what stands.
func (a *ledger) balanced(t testing.TB, p api.Policy, c api.Counts, s api.State) {
	t.Helper()
	waiting := 0
	for n, length := range s.Lens {
		waiting += length
		depth := p.Rest
		if n < len(p.Classes) {
			depth = p.Classes[n].Depth
		}
		if length > depth {
			t.Fatalf("T7: %s: class %d holds %d; its depth is %d", told(p), n, length, depth)
		}
	}
	if outcomes(c) != a.came+a.sent {
		t.Fatalf("P24.5: %s: %d frames came, %d were sent from hold; counted were %+v", told(p), a.came, a.sent, c)
	}
	if c.Queued != c.Taken+uint32(waiting)+a.lost || s.Held > p.Hold {
		t.Fatalf("P24.5: %s: %d wait, %d were lost out of the queue; counted were %+v", told(p), waiting, a.lost, c)
	}
}

// goes counts an event that was not refused, with the state ahead of it; it holds dialling and hanging up to what the document says.
func (a *ledger) goes(t testing.TB, p api.Policy, v api.Event, o api.Out, before api.State, after api.State) {
	t.Helper()
	switch v.Kind {
	case api.EventIn, api.EventOut:
		a.came++
	case api.EventUp:
		a.sent += uint32(before.Held)
		if len(o.Held) != before.Held {
			t.Fatalf("P24.2: %s: %d were held; told were %d", told(p), before.Held, len(o.Held))
		}
	}
	if before.Phase == api.PhaseUp && after.Phase == api.PhaseDown {
		for _, n := range before.Lens {
			a.lost += uint32(n)
		}
	}
	if o.Dial != (before.Phase == api.PhaseDown && after.Phase == api.PhaseDial) || o.Dial && v.Kind != api.EventOut {
		t.Fatalf("T6: %s: %s: dials: %v, from phase %d to %d", told(p), toldEvent(v), o.Dial, before.Phase, after.Phase)
	}
	if (o.Hang == api.HangIdle) != (v.Kind == api.EventTick && before.Phase == api.PhaseUp && p.Idle > 0 && before.Idle+1 >= p.Idle) {
		t.Fatalf("T6: %s: %s: hang %d after %d idle ticks", told(p), toldEvent(v), o.Hang, before.Idle)
	}
}

// order holds what is taken to what was queued: each once, each class's in their order, a class ahead first.
func (a *ledger) order(t testing.TB, v api.Event, o api.Out, wasHeld [][]byte, after api.State) {
	t.Helper()
	put := func(f api.Fate, b []byte) {
		if f.Kind == api.FateQueue {
			a.waits[f.Class] = append(a.waits[f.Class], b)
		}
	}
	switch v.Kind {
	case api.EventOut:
		put(o.Fate, v.Frame)
	case api.EventUp:
		for n, f := range o.Held {
			put(f, wasHeld[n])
		}
	case api.EventTake:
		first := 0
		for first < len(a.waits) && len(a.waits[first]) == 0 {
			first++
		}
		if first == len(a.waits) {
			if !sameOut(o, api.Out{}) {
				t.Fatalf("T7: nothing waits; told: %s", toldOut(o))
			}
			return
		}
		if want := taken(first, a.waits[first][0]); !sameOut(o, want) {
			t.Fatalf("T7: %s; want %s", toldOut(o), toldOut(want))
		}
		a.waits[first] = a.waits[first][1:]
	}
	if after.Phase == api.PhaseDown {
		clear(a.waits)
	}
}

// Policies and scripts by chance: each event held to the model, all of them to P24.5, T6 and T7.
func TestByChance(t *testing.T) {
	t.Parallel()
	chance := rand.New(rand.NewSource(24))
	var seen api.Counts
	errs := map[api.Errno]int{}
	for range 250 {
		p := policyByChance(t, chance)
		b := bothOf(t, p, api.Counts{})
		a := &ledger{waits: make([][][]byte, len(p.Classes)+1)}
		for range 400 {
			v := eventByChance(chance)
			before, wasHeld := b.x.State(), b.m.held
			o, e := b.do(t, v)
			errs[e]++
			after := b.x.State()
			if e == api.OK {
				a.goes(t, p, v, o, before, after)
				a.order(t, v, o, wasHeld, after)
			}
			a.balanced(t, p, b.x.Counts(), after)
		}
		c := b.x.Counts()
		for n, grown := range counters(&seen) {
			more(grown, int(*counters(&c)[n]))
		}
	}
	for n, name := range namesOf() {
		if *counters(&seen)[n] < 100 {
			t.Errorf("too few of %s: %+v", name, seen)
		}
	}
	for _, e := range []api.Errno{api.OK, api.ErrEngineEvent, api.ErrEngineLink, api.ErrEngineUp} {
		if errs[e] < 50 {
			t.Errorf("too few of error %d: %v", e, errs)
		}
	}
}

// Counts from anywhere, also where some of them come to their end.
func TestCountsByChance(t *testing.T) {
	t.Parallel()
	chance := rand.New(rand.NewSource(25))
	for range 60 {
		var from api.Counts
		for _, c := range counters(&from) {
			*c = []uint32{0, chance.Uint32(), top - uint32(chance.Intn(20)), top}[chance.Intn(4)]
		}
		b := bothOf(t, policyByChance(t, chance), from)
		for range 200 {
			b.do(t, eventByChance(chance))
		}
	}
}

// A long script, in the time that its length explains.
func TestLongScript(t *testing.T) {
	t.Parallel()
	b := bothOf(t, everything(t), api.Counts{})
	script := make([]api.Event, 0, 300000)
	for n := range 100000 {
		script = append(script, out(numbered(n)), take(), in(g()))
		if n%1000 == 0 {
			script[len(script)-3] = up(rich())
		}
	}
	outs := b.x.Play(script...)
	if len(outs) != len(script) || b.x.Counts().Taken != 99900 || b.x.Counts().Forward != 100000 {
		t.Errorf("P24.3: %d outs, %+v", len(outs), b.x.Counts())
	}
}
