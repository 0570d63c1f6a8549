package mean_test

import (
	"math/big"
	"slices"
	"strconv"
	"testing"

	"riddle/api"
)

// comesToAndSays holds Value of a number to what is wanted, and Judge of comparisons of it, on either side.
func comesToAndSays(t *testing.T, l []api.Node, link api.Link, b []byte, value uint32, how int) {
	t.Helper()
	comesTo(t, l, link, b, value, how)
	same, turned := how, how
	if how == yes {
		turned = no
	}
	for _, x := range []struct{ op, want int }{{api.OpEq, same}, {api.OpLe, same}, {api.OpGe, same}, {api.OpNe, turned}, {api.OpLt, turned}, {api.OpGt, turned}} {
		saysBothWays(t, append(slices.Clone(l), number(value), rel(x.op)), link, b, x.want)
		saysBothWays(t, append(append(list(number(value)), l...), rel(x.op)), link, b, x.want)
	}
}

// read tells a load of an index.
func read(of, size int, index uint32) []api.Node { return list(number(index), load(of, size)) }

// begins tells where that begins in a load of which a NodeLoad speaks; below 0, if it is not there.
func begins(s saying, of int) int {
	switch {
	case !slices.Contains(s.words, of):
		return -1
	case of >= api.OfTCP && of <= api.OfICMP6:
		if s.begin == 0 {
			return -1
		}
		return s.begin
	}
	return 0
}

// said tells the number that bytes say, the high byte first.
func said(b []byte) uint32 {
	var v uint32
	for _, c := range b {
		v = v*256 + uint32(c)
	}
	return v
}

// Loads of each name and size: at the first byte, at the last that is there, and one behind it.
func TestLoads(t *testing.T) {
	everywhereBut(5, func(s saying, at laid, b []byte) {
		for of := api.OfPPP; of <= api.OfIP6CP; of++ {
			base := 0
			if of != api.OfPPP {
				base = len(at.ahead) + begins(s, of)
			}
			for _, size := range sizes() {
				if of != api.OfPPP && begins(s, of) < 0 {
					says(t, equals(read(of, size, uint32(size-1))), at.link, size%2, b, no)
					continue
				}
				left := len(b) - base
				for _, index := range []int{0, 1, left - size, left - size + 1, left - 1, left, left + 1} {
					switch {
					case index < 0:
					case index+size <= left:
						comesTo(t, read(of, size, uint32(index)), at.link, b, said(b[base+index:base+index+size]), yes)
					default:
						comesTo(t, read(of, size, uint32(index)), at.link, b, 0, fault)
						saysBothWays(t, equals(read(of, size, uint32(index))), at.link, b, fault)
					}
				}
			}
		}
	})
}

// An index is an exact sum with the base: it does not come round to the frame's beginning.
func TestGreatIndexes(t *testing.T) {
	for _, b := range [][]byte{f(), behind(f(), 1000), behind(f(), api.MaxFrame-28)} {
		for of, base := range map[int]uint32{api.OfPPP: 0, api.OfIP: 4, api.OfUDP: 24} {
			for _, size := range sizes() {
				for _, back := range []uint32{1, 2, 3, 4, 5, 24, 25, 28, 32, 1 << 16, 1 << 31} {
					comesToAndSays(t, read(of, size, -back), plain(), b, 0, fault)
					comesToAndSays(t, read(of, size, -back-base), plain(), b, 0, fault)
					comesToAndSays(t, list(number(back), kind(api.NodeMinus), load(of, size)), plain(), b, 0, fault)
				}
				comesToAndSays(t, read(of, size, 1<<31), plain(), b, 0, fault)
				comesToAndSays(t, read(of, size, 1<<31-1), plain(), b, 0, fault)
			}
		}
	}
	// What is reckoned in the index wraps, and only then the base comes to it.
	comesToAndSays(t, source(t, "ip[4294967295 + 10]"), plain(), f(), 17, yes)
	comesToAndSays(t, source(t, "ip[0 - 1 + 10]"), plain(), f(), 17, yes)
	comesToAndSays(t, source(t, "ip[-(0 - 9)]"), plain(), f(), 17, yes)
	comesToAndSays(t, source(t, "ip[65536 * 65536 + 9]"), plain(), f(), 17, yes)
	comesToAndSays(t, source(t, "udp[0 - 24]"), plain(), f(), 0, fault)
}

// Indexes with loads in them.
func TestIndexes(t *testing.T) {
	for s, want := range map[string]uint32{
		"ip[ip[0] & 15]": 0, "ip[(ip[0] & 15) * 4 + 3]": 54, "ppp[ppp[3] - 32]": 3, "ppp[ip[14]]": 0x21, "udp[udp[1] - 50]": 54, "ip[ip[ip[ip[12] + 11]]]": 0x45, "ip[len - 28 + 9]": 17, "ip[-1 + 10]": 17, "ppp[len - 1]": 54, "ppp[len - 4:4]": 0x350036, "ppp[len / 2]": 0, "ip[12:4] >> 24": 1,
	} {
		comesToAndSays(t, source(t, s), plain(), f(), want, yes)
	}
	for _, s := range []string{"ppp[len]", "ppp[len - 3:4]", "ip[ip[12:4]]", "ip[udp[0:4]]", "ip[ip[99]]", "ip[ip[ip[99]]]", "ppp[len / ip[1]]", "-ip[99]", "ip[-1]", "ip[ip[99] * 0]"} {
		comesToAndSays(t, source(t, s), plain(), f(), 0, fault)
	}
	for _, s := range []string{"tcp[0]", "tcp[99]", "tcp[ip[99]]", "ip[tcp[0]]", "ip[ip[tcp[0]]]", "tcp[udp[0]]", "udp[tcp[99]]", "ppp[lcp[0]]", "tcp[len / ip[1]]", "ip[tcp[0] / ip[1]]", "-tcp[0]", "ip6[0] - ip6[0]", "0 * icmp[0]", "1 / tcp[0]", "1 / (tcp[0] * 0)"} {
		comesToAndSays(t, source(t, s), plain(), f(), 0, no)
	}
}

// words at which reckoning turns.
func edges() []uint32 {
	return []uint32{0, 1, 2, 7, 30, 31, 32, 33, 63, 64, 255, 256, 65535, 65536, 1<<31 - 1, 1 << 31, 1<<32 - 2, 1<<32 - 1}
}

// exactly reckons with whole numbers of any size, and makes a word of what comes of them; of a divisor 0 nothing comes.
func exactly(op int, a, b uint32) (uint32, bool) {
	x, y := new(big.Int).SetUint64(uint64(a)), new(big.Int).SetUint64(uint64(b))
	out := new(big.Int)
	switch op {
	case api.OpAdd:
		out.Add(x, y)
	case api.OpSub:
		out.Sub(x, y)
	case api.OpMul:
		out.Mul(x, y)
	case api.OpDiv, api.OpMod:
		if b == 0 {
			return 0, false
		}
		out.Div(x, y)
		if op == api.OpMod {
			out.Mod(x, y)
		}
	case api.OpAnd:
		out.And(x, y)
	case api.OpOr:
		out.Or(x, y)
	case api.OpXor:
		out.Xor(x, y)
	case api.OpShl:
		if b <= 31 {
			out.Lsh(x, uint(b))
		}
	case api.OpShr:
		if b <= 31 {
			out.Rsh(x, uint(b))
		}
	}
	return uint32(out.Mod(out, big.NewInt(1<<32)).Uint64()), true
}

// words tells a frame that says two words, and their numbers as loads.
func words(a, b uint32) []byte {
	return joined(fromHex("ff03 c021"), []byte{byte(a >> 24), byte(a >> 16), byte(a >> 8), byte(a), byte(b >> 24), byte(b >> 16), byte(b >> 8), byte(b)})
}

func TestOperations(t *testing.T) {
	first, second := read(api.OfLCP, 4, 0), read(api.OfLCP, 4, 4)
	for op := api.OpAdd; op <= api.OpShr; op++ {
		for _, a := range edges() {
			for _, b := range edges() {
				want, ok := exactly(op, a, b)
				how := yes
				if !ok {
					how = fault
				}
				comesToAndSays(t, append(slices.Concat(first, second), arith(op)), plain(), words(a, b), want, how)
				comesTo(t, append(append(list(number(a)), second...), arith(op)), plain(), words(a, b), want, how)
				if ok {
					comesTo(t, append(slices.Concat(first, list(number(b))), arith(op)), plain(), words(a, b), want, yes)
					comesTo(t, list(number(a), number(b), arith(op)), plain(), f(), want, yes)
				}
			}
		}
	}
	for _, a := range edges() {
		want, _ := exactly(api.OpSub, 0, a)
		comesToAndSays(t, append(slices.Clone(first), kind(api.NodeMinus)), plain(), words(a, 9), want, yes)
		comesTo(t, list(number(a), kind(api.NodeMinus)), plain(), f(), want, yes)
		comesTo(t, list(number(a), kind(api.NodeMinus), kind(api.NodeMinus)), plain(), f(), a, yes)
		comesTo(t, list(number(a)), plain(), f(), a, yes)
	}
}

// Comparisons are those of words without a sign.
func TestComparisons(t *testing.T) {
	for _, a := range edges() {
		for _, b := range edges() {
			for op, want := range map[int]bool{api.OpEq: a == b, api.OpNe: a != b, api.OpLt: a < b, api.OpLe: a <= b, api.OpGt: a > b, api.OpGe: a >= b} {
				saysBothWays(t, append(slices.Concat(read(api.OfLCP, 4, 0), read(api.OfLCP, 4, 4)), rel(op)), plain(), words(a, b), holds(want))
				saysBothWays(t, list(number(a), number(b), rel(op)), plain(), f(), holds(want))
			}
		}
	}
}

func TestLengths(t *testing.T) {
	for _, n := range []int{4, 5, 28, 255, 256, 257, 65534, 65535} {
		b := joined(fromHex("ff03 c021"), make([]byte, n-4))
		comesToAndSays(t, list(kind(api.NodeLen)), plain(), b, uint32(n), yes)
	}
	for _, at := range layings(0xc021) {
		b := joined(at.ahead, []byte{1, 2, 3})
		comesTo(t, list(kind(api.NodeLen)), at.link, b, uint32(len(at.ahead)+3), yes)
	}
}

// Frames of MaxFrame bytes are frames, one more makes them none.
func TestGreatFrames(t *testing.T) {
	for _, ahead := range [][]byte{f(), fromHex("ff03 c021"), joined(fromHex("ff03 0057"), headerIP6(17))} {
		b := behind(ahead, api.MaxFrame-len(ahead))
		b[len(b)-2], b[len(b)-1] = 7, 9
		for s, want := range map[string]int{
			"len = 65535": yes, "ppp[65534] = 9": yes, "ppp[65533:2] = 1801": yes, "ppp[65531:4] = 1801": yes, "ppp[65535] = 0": fault, "ppp[65534:2] = 0": fault, "ppp[65532:4] = 0": fault, "ppp[len] = 0": fault, "ppp[len - 1] = 9": yes, "ppp[65536] = 255": fault,
		} {
			saysBothWays(t, source(t, s), plain(), b, want)
			saysBothWays(t, source(t, s), plain(), append(b, 0), fault)
		}
		saysBothWays(t, source(t, "ip or not ip"), plain(), b, yes)
		saysBothWays(t, source(t, "ip or not ip"), plain(), append(b, 0), fault)
		comesTo(t, source(t, "5"), plain(), b, 5, yes)
		comesTo(t, source(t, "5"), plain(), append(b, 0), 0, fault)
	}
	b := behind(f(), api.MaxFrame-28)
	for s, want := range map[string]int{"ip[65530] = 0": yes, "ip[65531] = 0": fault, "udp[65510] = 0": yes, "udp[65511] = 0": fault, "udp[65507:4] = 0": yes, "udp[65508:4] = 0": fault} {
		saysBothWays(t, source(t, s), plain(), b, want)
	}
}

// What is not there makes a relation no, whatever else is in it, wherever it stands; behind that a fault is one.
func TestNotThereBesideFaults(t *testing.T) {
	absent := []string{"tcp[0]", "tcp[99]", "ip[tcp[0]]", "-icmp[0]", "lcp[0] + 1", "ip6[0] * ip[99]", "len / tcp[0]", "tcp[len / ip[1]]", "ip[99] - udp[tcp[0]]"}
	faults := []string{"ip[99]", "udp[4]", "ip[-1]", "ip[ip[99]]", "len / ip[1]", "len % ip[1]", "-ip[99]", "0 * ip[99]", "ip[99] << 99", "1 / (ip[99])", "ppp[1 / ip[1]]", "ip[99] / ip[1]"}
	there := []string{"0", "len", "ip[9]", "udp[0:2] + 1", "1 << 99"}
	ops := []string{"=", "!=", "<", "<=", ">", ">="}
	for i, gone := range absent {
		for j, other := range slices.Concat(absent, faults, there) {
			op := ops[(i+j)%len(ops)]
			saysBothWays(t, source(t, gone+" "+op+" "+other), plain(), f(), no)
			saysBothWays(t, source(t, other+" "+op+" "+gone), plain(), f(), no)
			saysBothWays(t, source(t, "not ("+other+" "+op+" "+gone+")"), plain(), f(), yes)
			for _, sign := range []string{"+", "-", "*", "/", "%", "&", "|", "^", "<<", ">>"} {
				if other == "0" || other == "1 << 99" {
					continue
				}
				comesTo(t, source(t, "("+gone+")"+sign+"("+other+")"), plain(), f(), 0, no)
				comesTo(t, source(t, "("+other+")"+sign+"("+gone+")"), plain(), f(), 0, no)
			}
		}
	}
	for i, wrong := range faults {
		for j, other := range slices.Concat(faults, there) {
			op := ops[(i+j)%len(ops)]
			saysBothWays(t, source(t, wrong+" "+op+" "+other), plain(), f(), fault)
			saysBothWays(t, source(t, other+" "+op+" "+wrong), plain(), f(), fault)
			saysBothWays(t, source(t, "not ("+other+" "+op+" "+wrong+")"), plain(), f(), fault)
			comesTo(t, source(t, "("+wrong+") + ("+other+")"), plain(), f(), 0, fault)
			comesTo(t, source(t, "("+other+") * ("+wrong+")"), plain(), f(), 0, fault)
		}
	}
	// Each relation is by itself: what is not there in one says nothing of another.
	saysBothWays(t, source(t, "tcp[0] = 0 or ip[99] = 0"), plain(), f(), fault)
	saysBothWays(t, source(t, "ip[99] = 0 or tcp[0] = 0"), plain(), f(), fault)
	saysBothWays(t, source(t, "tcp[0] = 0 and ip[99] = 0"), plain(), f(), no)
	saysBothWays(t, source(t, "not tcp[0] = 0 and ip[99] = 0"), plain(), f(), fault)
	saysBothWays(t, source(t, "tcp[0] = 0 or udp[0] = 0"), plain(), f(), yes)
}

func TestDivisors(t *testing.T) {
	for s, want := range map[string]int{
		"len / ip[1] = 0": fault, "len % ip[1] = 0": fault, "0 / ip[1] = 0": fault, "0 % ip[1] = 0": fault, "len / (len - 28) = 0": fault, "len % (ip[9] - 17) = 0": fault, "1 / (len << 32) = 0": fault, "1 / (len >> 32) = 0": fault, "1 / (4294967268 + len) = 0": fault, "1 / (1 / len) = 0": fault, "(len / ip[1]) * 0 = 0": fault, "1 / (len * 0) = 0": fault,
		"len / ip[3] = 1": yes, "len % ip[3] = 4": yes, "len / (len - 27) = 28": yes, "1 / len = 0": yes, "1 % len = 1": yes, "-1 / len = 153391689": yes, "-1 % len = 3": yes,
		"len << 32 = 0": yes, "len >> 32 = 0": yes, "len << 31 = 0": yes, "len << 29 = 2147483648": yes, "len >> 4 = 1": yes, "-1 >> 31 = 1": yes, "-1 >> 32 = 0": yes, "1 << -1 = 0": yes, "1 << ip[2:2] = 16777216": yes, "-1 << (len + 4) = 0": yes, "-1 >> (len + 4) = 0": yes,
	} {
		saysBothWays(t, source(t, s), plain(), f(), want)
	}
}

// Value tells 0 beside all that is no value.
func TestValue(t *testing.T) {
	for s, want := range map[string]uint32{"0": 0, "4294967295": 1<<32 - 1, "len": 28, "ip[2:2] - 25": 1<<32 - 1, "5 ^ 3": 6, "ip[12:4]": 0x01020304, "udp[2:2]": 54, "-len": 1<<32 - 28, "ip[9] * 1000": 17000, "ppp[0:2]": 0xff03, "(len - 1) * (len + 1)": 27 * 29} {
		comesToAndSays(t, source(t, s), plain(), f(), want, yes)
	}
	for s, how := range map[string]int{"tcp[0]": no, "ip[99]": fault, "ip[99] + tcp[0]": no, "tcp[0] + ip[99]": no, "1 / (ip[1])": fault, "-(len / (ip[1]))": fault, "-tcp[0]": no, "ip6[0]": no, "icmp[0]": no, "icmp6[0]": no, "lcp[0]": no, "pap[0]": no, "chap[0]": no, "ipcp[0]": no, "ip6cp[0]": no} {
		comesToAndSays(t, source(t, s), plain(), f(), 0, how)
	}
	for _, link := range links() {
		comesTo(t, source(t, "len * 2"), link, f(), 56, yes)
		comesTo(t, source(t, "udp[1] + udp[3]"), link, f(), 107, yes)
		comesTo(t, source(t, "7"), link, fromHex("ff03 c021"), 7, yes)
		comesTo(t, source(t, "7"), link, fromHex("ff03 c0"), 0, fault)
		comesTo(t, source(t, "tcp[0]"), link, fromHex("ff03 c0"), 0, fault)
		comesTo(t, source(t, "ip[99]"), link, fromHex("ff03 c0"), 0, fault)
	}
	for n := range 200 {
		s := strconv.Itoa(n) + " * len + " + strconv.Itoa(n)
		comesTo(t, source(t, s), plain(), f(), uint32(29*n), yes)
	}
}
