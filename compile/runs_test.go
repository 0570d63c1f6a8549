package compile_test

import (
	"testing"

	"riddle/api"
)

// Frames of each kind that are well formed, and frames that are not, on every link.
func TestFrames(t *testing.T) {
	t.Parallel()
	var n tally
	for _, link := range links() {
		well, ill := wellFormed(link), illFormed(link)
		for turn, s := range sources() {
			l, p := treeOf(t, s), ofSource(t, s, link)
			n.agrees(t, p, l, link, oneOf(13, turn, well)...)
			for _, b := range oneOf(5, turn, ill) {
				for _, way := range ways() {
					comesTo(t, s, p, link, way, b, 0)
				}
			}
		}
	}
	n.enough(t, 5000)
}

// Every frame of each kind, of filters that look at everything.
func TestEveryFrame(t *testing.T) {
	t.Parallel()
	var n tally
	for _, link := range links() {
		for _, s := range []string{"udp port 53 or tcp dst port 80 and inbound or lcp[0] = 1", "not (mp or icmp or icmp6 and ip6[7] = 0)", "1 = 1", "net 1.0.0.0/8 or src net 102::/16 or ppp[len - 1] = 5"} {
			l, p := treeOf(t, s), ofSource(t, s, link)
			n.agrees(t, p, l, link, wellFormed(link)...)
			n.agrees(t, p, l, link, illFormed(link)...)
		}
	}
	n.enough(t, 2000)
}

// Frames that are cut off at each byte, down to none.
func TestCutOff(t *testing.T) {
	t.Parallel()
	var n tally
	for turn, link := range links() {
		well := oneOf(61, turn, wellFormed(link))
		for i, s := range sources() {
			l, p := treeOf(t, s), ofSource(t, s, link)
			for _, b := range oneOf(5, i, well) {
				for end := range len(b) + 1 {
					n.agrees(t, p, l, link, b[:end])
				}
			}
		}
	}
	n.enough(t, 5000)
}

// Each byte of a frame turned to something else.
func TestTurnedBytes(t *testing.T) {
	t.Parallel()
	var n tally
	for turn, link := range links() {
		well := oneOf(149, turn, wellFormed(link))
		for i, s := range sources() {
			l, p := treeOf(t, s), ofSource(t, s, link)
			for _, b := range oneOf(4, i, well) {
				for place := range b {
					n.agrees(t, p, l, link, at(b, place, byte(i)^b[place]), at(b, place, b[place]^1<<(i%8)))
				}
			}
		}
	}
	n.enough(t, 5000)
}

// Frames as long as may be: what lies at their end is there, what lies behind it is not.
func TestLongestFrames(t *testing.T) {
	b := make([]byte, api.MaxFrame)
	copy(b, f())
	b[api.MaxFrame-1] = 9
	for s, want := range map[string]uint32{
		"len = 65535": 1, "len > 65534": 1, "ppp[65534] = 9": 1, "ppp[65535] = 0": 0, "not ppp[65535] = 0": 0, "ppp[65533:2] = 9": 1, "ppp[65534:2] = 9": 0, "ip[65530] = 9": 1, "ip[65531] = 9 or ip": 0, "udp[65507:4] = 9": 1, "udp[65510] = 9": 1, "udp[65508:4] = 9 or ip": 0, "ppp[len - 1] = 9": 1, "ppp[len] = 9 or ip": 0, "not ppp[4294967295] = 9": 0, "not udp[4294967295:4] = 0": 0, "not ip[4294967292 + len - 65535] = 69": 0, "udp port 53": 1,
	} {
		for _, link := range links() {
			p := ofSource(t, s, link)
			for _, way := range ways() {
				comesTo(t, s, p, link, way, b, want)
			}
		}
	}
}
