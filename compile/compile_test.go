package compile_test

import (
	"slices"
	"testing"

	"riddle/api"
	"riddle/compile"
	"riddle/forge"
)

func TestExamples(t *testing.T) {
	for _, x := range []struct {
		s     string
		link  api.Link
		place int
		e     api.Errno
	}{
		{"ip and", plain(), 6, api.ErrParseEnd}, {"ip + 1 = 2", plain(), 3, api.ErrTypeNumber}, {"", api.Link{MP: 9}, 0, api.ErrCompileLink}, {"1/0=1", plain(), 1, api.ErrTypeZero}, {"ip;", plain(), 2, api.ErrLexByte},
	} {
		refuses(t, x.s, x.link, x.place, x.e)
	}
	link := api.Link{ACFC: true, PFC: true, MP: api.MultiShort}
	p := ofSource(t, "udp port 53", link)
	for _, spec := range []api.Spec{
		{Proto: api.ProtoIP, Next: api.NextUDP, Ports: true, From: 53, To: 9},
		{Proto: api.ProtoIP, Next: api.NextUDP, Ports: true, From: 9, To: 53, Wide: true, Plain: true},
		{Proto: api.ProtoIP6, Next: api.NextUDP, Ports: true, From: 53, To: 53, Multi: true, Begin: true, Seq: 7},
	} {
		b, _ := forge.Make(link, spec)
		comesTo(t, "udp port 53", p, link, api.WayIn, b, 1)
		comesTo(t, "udp port 53", p, link, api.WayOut, b, 1)
		spec.Next = api.NextTCP
		b, _ = forge.Make(link, spec)
		comesTo(t, "udp port 53", p, link, api.WayIn, b, 0)
		spec.Next, spec.From, spec.To = api.NextUDP, 52, 54
		b, _ = forge.Make(link, spec)
		comesTo(t, "udp port 53", p, link, api.WayIn, b, 0)
	}
}

// sources tells filters of each kind, as they may be written.
func sources() []string {
	return []string{
		"ip", "ip6", "tcp", "udp", "icmp", "icmp6", "lcp", "pap", "chap", "ipcp", "ip6cp", "mp", "inbound", "outbound", "not mp", "!ip", "not not udp", "! ! ! tcp",
		"proto 33", "proto 0x3d", "proto 0", "proto 65535", "ip proto 17", "ip6 proto 58", "ip proto 255", "not ip6 proto 0",
		"host 1.2.3.4", "src host 5.6.7.8", "dst host 5.6.7.8", "host 102:304:506:708:90a:b0c:d0e:f10", "dst host 1112:1314:1516:1718:191a:1b1c:1d1e:1f20", "src host ::", "net 1.2.0.0/15", "dst net 5.6.7.8/32", "net 0.0.0.0/0", "src net 102:304::/32", "net 1112:1314:1516:1718:191a:1b1c:1d1e:1f20/123", "dst net 1112:1314:1516:1718:191a:1b1c:1d1e:1f00/120", "net ::/0",
		"port 53", "src port 53", "dst port 53", "dst port 80", "tcp port 80", "udp src port 53", "tcp dst portrange 80-90", "portrange 54-79", "portrange 0-65535", "udp portrange 1-53", "src portrange 53-53", "not port 53",
		"1 = 1", "0=1", "not 2 > 1", "len > 28", "len<=28", "len % 4 = 0", "len / 0x10 >= 2", "-len != 5", "len << 31 >> len = 0", "len * len - len | 3 ^ len & 0xff = 7", "1/len=0",
		"ip[0] = 0x45", "ip[8:2] != 99", "ip[12:4]=0x01020304", "ip6[0]&0xf0=0x60", "ip[ip[0] & 15 - 5] = 0x45", "ip[(ip[0] & 15) * 4 + 1] = 53", "tcp[0:2] = 53", "udp[2:2]=80", "icmp[0] = 0", "icmp6[3] >= 80", "lcp[0] = 1", "pap[1]=2", "chap[4] = 5", "ipcp[0]=1", "ip6cp[2:2] < 1000", "ppp[0] = 0xff", "ppp[len-1] = 100", "ppp[len] = 0", "ppp[0xffffffff] = 0", "udp[0xfffffffe:4] = 0", "not tcp[5:4] = 0", "tcp[0] = ip[99]", "ip[99] = 0 or ip", "ip or ip[99] = 0", "not ip[99] = 0", "1 / (ip[1]) = 0 or ip", "lcp[0] / lcp[9] = 0",
		"ip and not udp", "udp or tcp and inbound", "(udp or tcp) and inbound", "not (ip and port 53)", "not (udp || icmp) && len >= 20", "ip and (tcp or udp) and not (src net 1.0.0.0/8 or dst port 80)", "mp and not udp or outbound and ip6", "(ip)&&!(udp||tcp)", "((((ip))))",
	}
}

// A source and its tree are the same program, on every link; and each program is safe.
func TestSourcesAndTrees(t *testing.T) {
	for _, s := range sources() {
		for _, link := range links() {
			if p, q := ofSource(t, s, link), ofTree(t, treeOf(t, s), link); !slices.Equal(p, q) {
				t.Errorf("P19.2: %q, %+v: %v of its tree; want %v", s, link, q, p)
			}
		}
	}
}

// Blanks, brackets around a whole part and words in the place of signs change nothing but places.
func TestWrittenOtherwise(t *testing.T) {
	for _, x := range [][]string{
		{"ip and not udp", "ip&&!udp", "\t(ip)\r\nand\n  not ( udp )  ", "((ip and (not (udp))))"},
		{"udp or tcp and ip", "udp||tcp&&ip", "udp or (tcp and ip)", "(udp)or((tcp)&&(ip))"},
		{"1 + 2 * 3 = len", "1+2*3==len", "(1 + (2 * 3)) = (len)", "0x1 + 0x00000002 * 0x03 = len"},
		{"ip[2:2] & 7 > 1", "ip[(2):2]&7>1", "(ip [ 2 : 2 ] & 7) > 1", "(((ip[0x2:0x2])) & (7)) > (1)"},
		{"port 53", "portrange 53-53", "( port 0x35 )", "portrange\n0x035 - 53"},
		{"src net 1.2.0.0/16", "src\tnet 1.2.0.0 / 16", "(src net 1.2.0.0/0x10)"},
		{"host ::1", "host 0:0:0:0:0:0:0:1", "(host\n::1)"},
	} {
		for _, link := range links() {
			want := ofSource(t, x[0], link)
			for _, s := range x[1:] {
				if p := ofSource(t, s, link); !slices.Equal(p, want) {
					t.Errorf("P11.2: %q, %+v: another program than %q: %v; want %v", s, link, x[0], p, want)
				}
			}
		}
	}
}

// What is said of the chapters' frame, told without asking mean for it: it has the same parts on every link.
func TestSaid(t *testing.T) {
	for s, want := range map[string]uint32{
		"ip": 1, "udp": 1, "tcp": 0, "ip6": 0, "icmp": 0, "icmp6": 0, "lcp": 0, "mp": 0, "inbound or outbound": 1, "inbound and outbound": 0, "proto 33": 1, "proto 87": 0, "ip proto 17": 1, "ip proto 6": 0, "ip6 proto 17": 0,
		"src host 1.2.3.4": 1, "dst host 1.2.3.4": 0, "host 5.6.7.8": 1, "dst net 5.6.0.0/16": 1, "net 5.7.0.0/16": 0, "net 5.4.0.0/14": 1, "host 9.9.9.9": 0, "host ::1": 0, "net ::/0": 0, "net 0.0.0.0/0": 1,
		"port 54": 1, "src port 54": 0, "src port 53": 1, "tcp port 54": 0, "udp port 53": 1, "portrange 55-60": 0, "portrange 50-53": 1, "dst portrange 54-54": 1,
		"udp[0:2] = 53": 1, "ip[9] = 17": 1, "ppp[3] = 0x21": 1, "ip[ip[0] & 15 - 5] = 0x45": 1, "ppp[0:4] = 0xff030021": 1, "ip[12:4] = 0x01020304": 1, "udp[0:4] = 0x350036": 1, "udp[1:4] = 0": 0, "not udp[1:4] = 0": 0,
		"tcp[0] = 0": 0, "not tcp[0] = 0": 1, "tcp[0] = ip[99]": 0, "not tcp[0] = ip[99]": 1, "not ip[99] = tcp[0]": 1, "not tcp[0] / (len - 28) = 1": 1,
		"udp or ip[99] = 0": 1, "ip[99] = 0 or udp": 0, "udp and ip[99] = 0": 0, "tcp and ip[99] = 0": 0, "not (tcp and ip[99] = 0)": 1, "not (udp and ip[99] = 0)": 0, "not not ip[99] = 0": 0, "not (ip[99] = 0 and tcp)": 0,
		"len / (ip[1]) = 0": 0, "not len / (ip[1]) = 0": 0, "0 * ip[99] = 0": 0, "len % (len - 28) = 0 or ip": 0, "len = 28": 1, "len >> 32 = 0": 1, "len << len << 5 = 0": 1, "-len = 4294967268": 1, "1 = 1": 1, "1 != 1": 0, "not 1 != 1": 1,
	} {
		for _, link := range links() {
			p := ofSource(t, s, link)
			for _, way := range ways() {
				comesTo(t, s, p, link, way, f(), want)
			}
		}
	}
}

// What is asked of the way is the way alone.
func TestWays(t *testing.T) {
	for s, want := range map[string][]uint32{"inbound": {1, 0}, "outbound": {0, 1}, "not inbound": {0, 1}, "not outbound": {1, 0}, "inbound and udp or outbound and tcp": {1, 0}, "udp and outbound": {0, 1}} {
		for _, link := range links() {
			p := ofSource(t, s, link)
			for way, value := range want {
				comesTo(t, s, p, link, way, f(), value)
				comesTo(t, s, p, link, way, f()[:8], 0)
			}
		}
	}
}

// A piece that begins a frame is looked into, another one is not.
func TestPieces(t *testing.T) {
	inner := f()[2:]
	begin := map[int]string{api.MultiShort: "ff 03 00 3d 80 07", api.MultiLong: "ff 03 00 3d 80 00 00 07"}
	later := map[int]string{api.MultiShort: "ff 03 00 3d 40 08", api.MultiLong: "ff 03 00 3d 40 00 00 08"}
	for _, link := range links() {
		for s, want := range map[string][2]uint32{
			"mp": {1, 1}, "udp": {1, 0}, "udp port 53": {1, 0}, "proto 33": {1, 0}, "proto 61": {0, 1}, "src host 1.2.3.4": {1, 0}, "udp[0:2] = 53": {1, 0}, "not ip": {0, 1}, "not ip[0] = 0": {1, 1}, "ppp[2:2] = 61": {1, 1},
		} {
			if link.MP == api.MultiOff {
				continue
			}
			p := ofSource(t, s, link)
			for _, way := range ways() {
				comesTo(t, s, p, link, way, joined(fromHex(begin[link.MP]), inner), want[0])
				comesTo(t, s, p, link, way, joined(fromHex(later[link.MP]), inner), want[1])
			}
		}
		// Where there is no multilink, it is a protocol like others.
		if link.MP == api.MultiOff {
			p := ofSource(t, "proto 61 and not mp", link)
			comesTo(t, "proto 61 and not mp", p, link, api.WayIn, joined(fromHex(begin[api.MultiShort]), inner), 1)
		}
	}
}

func BenchmarkCompile(b *testing.B) {
	s := heaviest("port 53", " or ")
	for b.Loop() {
		if _, _, e := compile.Compile(s, rich()); e != api.OK {
			b.Fatal(e)
		}
	}
}
