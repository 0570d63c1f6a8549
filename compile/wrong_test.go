package compile_test

import (
	"strconv"
	"strings"
	"testing"

	"riddle/api"
	"riddle/compile"
)

func repeat(s string, n int) string { return strings.Repeat(s, n) }

// refuses holds Compile to an error and its place.
func refuses(t testing.TB, s string, link api.Link, place int, e api.Errno) {
	t.Helper()
	if p, gotPlace, gotE := compile.Compile(s, link); gotPlace != place || gotE != e || len(p) != 0 {
		t.Errorf("P19.1: %.200q, %+v: %d instructions, %d, %d; want %d, %d", s, link, len(p), gotPlace, gotE, place, e)
	}
}

// marked tells a source without the mark in it, and the place at which that stood.
func marked(t testing.TB, s string) (string, int) {
	t.Helper()
	place := strings.Index(s, "$")
	if place < 0 || strings.Count(s, "$") != 1 {
		t.Fatalf("%q has no mark", s)
	}
	return strings.Replace(s, "$", "", 1), place
}

// wrongs tells sources with one thing wrong, and a mark ahead of the token whose place is told.
func wrongs() map[api.Errno][]string {
	return map[api.Errno][]string{
		api.ErrLexByte:    {"$;", "ip$;", "ip $;", "a $A", "\n\t $@ ip", "ip and$\x00", "ip $\"", "ip $\x80 or", "host 1.2.3.4 $, tcp", "ip$\x0b"},
		api.ErrLexNumber:  {"$007", "ip $007", "proto $12ab", "len = $4294967296", "len=$0x", "ip[$08:2] = 1", "1 +$00= 2", "$0x100000000 = 1", "port $1e3"},
		api.ErrParseEnd:   {"$", " $", "\n\n$", "ip and$", "ip and  $", "(ip$", "not$", "!$", "ppp$", "ppp[$", "ppp[0$", "ppp[0:$", "ppp[0:1$", "1 =$", "-$", "host$", "net 1.0.0.0$", "net 1.0.0.0/$", "port$", "portrange 1$", "portrange 1-$", "src$", "tcp src$", "proto$", "ip proto$", "ip or ($"},
		api.ErrParseToken: {"ip $udp", "$)", "($)", "ip $)", "((ip)$]", "$foo", "ip and $or", "1 < 2 $< 3", "mp$[0]=1", "tcp src $host 1.2.3.4", "host $ip", "host $1", "net 1.0.0.0 $8", "port $ip", "portrange 1 $2", "src $ip", "proto $ip", "ppp $= 1", "ppp[0:$len] = 1", "ppp[$] = 1", "1 + $* 2 = 3", "$1.2.3.4", "$::1", "ip $:", "not $and ip", "$src6"},
		api.ErrParseAddr:  {"host $1.2", "host $1.2.3", "host $1.2.3.256", "src net $1.2.3.4.5/8", "host $1::2::3", "ip or (dst host $::1ffff)", "net $1./8", "host  $01.2.3.4"},
		api.ErrTypeNumber: {"ip $+ 1 = 2", "1 $+ ip = 2", "ip $= 1", "1 $!= (udp)", "  ( ip )\t$<=\n3", "$-ip = 1", "1 = - $-(tcp)", "(($- tcp)) = 1", "$ip[udp] = 1", "len + $ppp[(ip or tcp):2] = 1", "(1 = 1) $= 1", "(ip and tcp) $* 2 > 1", "udp or not (len $>> inbound > 1)", "ip[1] $& port 5 = 1", "ip and (1 $^ proto 3) = 2", "ppp[$ip[not ip]] = 1", "(((ip))) $== (((ip)))"},
		api.ErrTypeBool:   {"$len", "  $5", "(($len))", "1 $+ 2", "ip $and 5", "5 $&& ip", "ip $or len", "$not 5", "$!5", "! $! (5)", "not ($not len)", "(1 $| 2)", "ip and (udp $or 1 + 2)", "$-5", "$- - - 5", "$ip[2]", "( $ppp [ 1 : 4 ] )", "ip $and ip[2]", "ip[2] $|| ip", "ip and udp $and (1)", "ip $and 1 or udp", "\t1\n$*\n2"},
		api.ErrTypeZero:   {"1$/0=1", "len $% (1 - 1) = 0", "1 $% 0 = 1 or ip", "ip[4 $/ 0] = 1", "1 / (2 $/ 0) = 1", "udp and not (len  $/  (5 * (3 - 3)) > 1)", "1 = len $/ -0", "len $/ (1 << 32) = 1"},
		api.ErrTypeRange:  {"$ip[0:3] = 1", "$ip[0:0]=1", "1 = $ppp[0:8]", "$ip[ip[0]:5] = 1", "ip[$ip[0:4294967295]] = 1", "$port 70000", "$port 65536", "not ($src port 65536)", "$tcp dst portrange 9-1", "udp and $portrange 1-65536", "$proto 65536", "ip or $proto 4294967295", "$ip proto 256", "!$ip6 proto 1000", "$net 0.0.0.0/33", "ip and($dst net ::/129)", "$net 1.2.3.4/4294967295"},
		api.ErrTypeHost:   {"$net 10.0.0.1/8", "not ($src net ::1/127)", "tcp or ( $net 1.2.3.4/8 )", "$dst net 0.0.0.1/0", "!  $net fe80::/8", "ip and $net 128.0.0.0/0"},
	}
}

// Each error, at its place.
func TestPlaces(t *testing.T) {
	for e, all := range wrongs() {
		for _, s := range all {
			s, place := marked(t, s)
			for _, link := range links() {
				refuses(t, s, link, place, e)
			}
		}
	}
}

// Blanks ahead of a source put its places off; behind it only the end's.
func TestPlacesBehindBlanks(t *testing.T) {
	for e, all := range wrongs() {
		for _, s := range all {
			s, place := marked(t, s)
			for _, blanks := range []string{" ", "\t", "\r\n", repeat(" \n", 999)} {
				refuses(t, blanks+s, plain(), len(blanks)+place, e)
				if e == api.ErrParseEnd {
					place += len(blanks)
				}
				refuses(t, s+blanks, rich(), place, e)
				if e == api.ErrParseEnd {
					place -= len(blanks)
				}
			}
		}
	}
}

// In brackets, under not, and beside a truth, what types tells stands at the same node; a source that is wrong as a whole is wrong at what takes it.
func TestPlacesInBrackets(t *testing.T) {
	for _, e := range []api.Errno{api.ErrTypeNumber, api.ErrTypeZero, api.ErrTypeRange, api.ErrTypeHost} {
		for _, s := range wrongs()[e] {
			s, place := marked(t, s)
			for _, around := range []string{"(", "((", " ( ", "not (", "!(", "ip and (", "udp or not ((", "(1=1)&&("} {
				ends := repeat(")", strings.Count(around, "(")-strings.Count(around, ")"))
				refuses(t, around+s+ends, plain(), len(around)+place, e)
				refuses(t, around+s+ends+" or ip", plain(), len(around)+place, e)
			}
		}
	}
	for _, number := range []string{"5", "len", "(1+2)", "ip[2]", "-1", "( ip [ 0 ] )"} {
		for s, place := range map[string]int{"not " + number: 0, " !" + number: 1, number + " and ip": len(number) + 1, "ip  or " + number: 4, "(ip)&&(" + number + ")": 4, "ip and not not " + number: 11} {
			refuses(t, s, plain(), place, api.ErrTypeBool)
		}
	}
}

// A link that may not be counts ahead of all that is wrong with a source, and with none.
func TestLinks(t *testing.T) {
	for _, link := range noLinks() {
		for _, all := range wrongs() {
			for _, s := range all {
				refuses(t, strings.Replace(s, "$", "", 1), link, 0, api.ErrCompileLink)
			}
		}
		for _, s := range []string{"ip", "", repeat("x", api.MaxSource+1), repeat("(", 201), repeat("ip or ", 300) + "ip"} {
			refuses(t, s, link, 0, api.ErrCompileLink)
		}
	}
}

// Of several errors lex's counts ahead of parse's, and parse's ahead of types', wherever they stand.
func TestWhichError(t *testing.T) {
	for e, all := range map[api.Errno][]string{
		// lex ahead of parse and types
		api.ErrLexByte:   {"ip ip $;", ") ) $@", "host 1.2 $#", "1/0=1 $~", "len $?", "port 70000 ( $?", repeat("(", 300) + "$?", "ip and $?", "$? 007"},
		api.ErrLexNumber: {"ip ip $007", "and $08", "5 and host 1.2 $0x", "net 1.2.3.4/8 or $12a", repeat("!", 201) + "$00", "$007 ;"},
		// parse ahead of types
		api.ErrParseEnd:   {"1/0=1 and$", "not 5 or$", "port 70000 and ($", "net 1.2.3.4/8 or $", "ip + 1 =$", "ip[0:3$", repeat("ip or ", 300) + "$"},
		api.ErrParseToken: {"1/0=1 $)", "len $len", "port 70000 $port 70000", "(net 1.2.3.4/8$]", "ip + 1 = 2 $= 3", repeat("ip or ", 300) + "ip $ip", "ip $udp and )", "$foo bar"},
		api.ErrParseAddr:  {"1/0=1 or host $1.2.3", "5 and host $1.2", "host $1.2 ip ip", "net $1.2.3/99"},
		// of types the first node's in the tree's order: a part ahead of what takes it, the left one ahead of the right
		api.ErrTypeNumber: {"ip $+ 1 = 2 or 1/0=1", "ip $= 1 and 5", "$-ip / 0 = 1", "$ip[tcp:3] = 1", "ip $/ 0 = 1", "tcp $= port 5 or port 70000"},
		api.ErrTypeBool:   {"$not 5 or port 70000", "5 $and ip or net 1.2.3.4/8", "(ip $or 5) and 1/0=1", "$not len and not len"},
		api.ErrTypeZero:   {"ip + (1$/0) = 2", "1$/0=1 and port 70000", "not (1 $% 0)", "1$/0", "(1 $/ 0) and 5", "1$/0 = 1/0", "len / (2 - 2 $% 0) = 1", "ip[1 $/ 0 : 3] = 1"},
		api.ErrTypeRange:  {"$port 70000 and 1/0=1", "$port 70000 or port 70001", "len and $port 70000", "5 = $ip[0:3] + udp", "$net 1.2.3.4/33", "$proto 65536 = 1", "$portrange 70000-1 or 5"},
		api.ErrTypeHost:   {"$net 1.2.3.4/8 or 1/0=1", "5 and $net 1.2.3.4/8", "$net 1.2.3.4/8 = 1", "$net 1.2.3.4/8 and net 1.2.3.4/33"},
	} {
		for _, s := range all {
			s, place := marked(t, s)
			refuses(t, s, plain(), place, e)
			refuses(t, s, rich(), place, e)
			refuses(t, s, api.Link{MP: 3}, 0, api.ErrCompileLink)
		}
	}
}

func TestLongSources(t *testing.T) {
	for _, s := range []string{repeat("x", api.MaxSource+1), repeat(" ", api.MaxSource+1), repeat(" ", api.MaxSource-1) + "ip", repeat("ip;", 30000), repeat("\x00", 1<<20), "1 = 1" + repeat("\n", api.MaxSource-4)} {
		refuses(t, s, plain(), 0, api.ErrLexLong)
		refuses(t, s, rich(), 0, api.ErrLexLong)
	}
	refuses(t, repeat(" ", api.MaxSource), plain(), api.MaxSource, api.ErrParseEnd)
	refuses(t, repeat("x", api.MaxSource), plain(), 0, api.ErrParseToken)
	refuses(t, repeat(" ", api.MaxSource-1)+";", plain(), api.MaxSource-1, api.ErrLexByte)
	refuses(t, repeat(" ", api.MaxSource-3)+"len", plain(), api.MaxSource-3, api.ErrTypeBool)
	for _, s := range []string{repeat(" ", api.MaxSource-2) + "ip", "ip" + repeat("\n", api.MaxSource-2), "ip" + repeat("\t", api.MaxSource-10) + "and udp "} {
		if len(s) != api.MaxSource {
			t.Fatalf("%d bytes", len(s))
		}
		comesTo(t, "a long source", ofSource(t, s, plain()), plain(), api.WayIn, f(), 1)
	}
	// Far more nodes than a filter may have.
	ones := repeat("1+", api.MaxSource/2-1) + "1"
	refuses(t, ones, plain(), len(ones)-2, api.ErrTypeBool)
	refuses(t, repeat("ip&&", api.MaxSource/4-1)+"ip", plain(), 4*230, api.ErrTypeWeight)
}

func TestDeepSources(t *testing.T) {
	for _, s := range []string{
		repeat("(", 200) + "ip" + repeat(")", 200), repeat("!", 200) + "ip", repeat("not ", 200) + "ip", repeat("not(", 100) + "ip" + repeat(")", 100),
		repeat("(1=1)&&(", 200) + "ip" + repeat(")", 200), repeat("-", 200) + "len = 28", repeat("-(", 100) + "len" + repeat(")", 100) + "= 28",
	} {
		comesTo(t, s, ofSource(t, s, plain()), plain(), api.WayIn, f(), 1)
	}
	loads := repeat("ppp[", 120) + "4" + repeat("]", 120) + " = 4"
	comesTo(t, loads, ofSource(t, loads, plain()), plain(), api.WayIn, fromHex("ff 03 c0 21 04"), 1)
	for _, s := range []string{repeat("(", 200) + "$(ip" + repeat(")", 201), repeat("!", 200) + "$! ip", repeat("not ", 200) + "$not 5", repeat("-", 200) + "$-1 = 1", repeat("(-", 100) + "$(1/0)" + repeat(")", 100) + "= 1", repeat("ppp[", 200) + "$(0)" + repeat("]", 200) + "=1", repeat("(", 200) + "$" + repeat("(", 50)} {
		s, place := marked(t, s)
		refuses(t, s, plain(), place, api.ErrParseDeep)
		refuses(t, "  "+s+" ) foo", plain(), place+2, api.ErrParseDeep)
		refuses(t, s+" ;", plain(), len(s)+1, api.ErrLexByte)
		refuses(t, s, api.Link{MP: -1}, 0, api.ErrCompileLink)
	}
	refuses(t, repeat("(", 200), plain(), 200, api.ErrParseEnd)
	refuses(t, repeat("-", 200)+"1", plain(), 0, api.ErrTypeBool)
	// Brackets that are shut again count no more.
	comesTo(t, "brackets", ofSource(t, repeat("(1=1) and ", 200)+"ip", plain()), plain(), api.WayIn, f(), 1)
}

// With weights told by hand: at which node the weights from the first one on are too much.
func TestHeavySources(t *testing.T) {
	words := repeat("ip or ", 230)
	// A word weighs 12, or weighs 1: 230 of these with the or between them weigh 2989.
	refuses(t, words+"ip", plain(), len(words), api.ErrTypeWeight)
	refuses(t, words+"ip or ip or 1=1", plain(), len(words), api.ErrTypeWeight)
	refuses(t, "  "+words+"  ip", rich(), len(words)+4, api.ErrTypeWeight)
	refuses(t, words+"(not (1=1))", plain(), len(words)-3, api.ErrTypeWeight)
	refuses(t, words+"(not (1=1)) and ip", plain(), len(words)+16, api.ErrTypeWeight)
	comesTo(t, "3000", ofSource(t, words+"1 = 1", plain()), plain(), api.WayIn, f(), 1)
	for nots := range 12 {
		s := repeat("not ", nots) + "(" + words[:len(words)-4] + ")"
		comesTo(t, s, ofSource(t, s, plain()), plain(), api.WayIn, f(), holds(nots%2 == 0))
	}
	refuses(t, repeat("not ", 12)+"("+words[:len(words)-4]+")", plain(), 0, api.ErrTypeWeight)
	// What is wrong at a node, and with the whole, counts ahead of the weight.
	refuses(t, words+"ip or port 70000", plain(), len(words)+6, api.ErrTypeRange)
	refuses(t, words+"ip or len", plain(), len(words)+3, api.ErrTypeBool)
	sums := repeat("1+", 600) + "1"
	refuses(t, sums, plain(), len(sums)-2, api.ErrTypeBool)
	refuses(t, sums+"=1", plain(), 2*429-1, api.ErrTypeWeight)
	loads := repeat("ip[0]+", 200) + "1 = 1"
	refuses(t, loads, plain(), 6*96-1, api.ErrTypeWeight)
	nets := repeat("net ::/0&&", 99)
	refuses(t, nets+"ip", plain(), 10*37, api.ErrTypeWeight)
}

// Sources as heavy as may be, of truths whose weights are told by hand; one node more is too much.
func TestAsHeavyAsMayBe(t *testing.T) {
	for part, weight := range map[string]int{
		"inbound": 6, "ip": 12, "mp": 12, "proto 33": 8, "ip proto 17": 16, "ip6 proto 17": 16, "host 1.2.3.4": 24, "src host ::1": 72, "net 5.0.0.0/8": 32, "dst net ::/0": 80, "port 53": 40, "tcp portrange 1-2": 40,
		"1 = 1": 10, "len > 5": 11, "-1 < 2": 12, "1 + 2 = 3": 17, "ip[0] = 69": 34, "udp[ip[9] - 17:2] = 53": 65, "!ip": 13,
	} {
		for _, join := range []string{" and ", " or ", "&&", "||"} {
			s := heaviest(part, join)
			nots := (api.MaxWeight + 1) % (weight + 1)
			if want := (api.MaxWeight+1)/(weight+1) - 1; strings.Count(s, join) != want || !strings.HasPrefix(s, repeat("!", nots)+"(") {
				t.Fatalf("%s weighs %d; %.100s has %d of them, %d nots", part, weight, s, strings.Count(s, join)+1, nots)
			}
			for _, link := range []api.Link{plain(), rich()} {
				ofSource(t, s, link)
				refuses(t, "!"+s, link, 0, api.ErrTypeWeight)
				refuses(t, s+" and ip", link, len(s)+5, api.ErrTypeWeight)
			}
		}
	}
}

// One byte that begins no token, at each place of a source: its place is told, whatever stands around it.
func TestPlaceOfEachByte(t *testing.T) {
	s := "ip and (not udp port 53 or src net 10.0.0.0/8) and ip[2:2] + 0x1f > len"
	for at := range len(s) + 1 {
		place, e := at, api.ErrLexByte
		if strings.HasSuffix(s[:at], " 0x") {
			// What is left of the number ahead of it is none.
			place, e = at-2, api.ErrLexNumber
		}
		refuses(t, s[:at]+";"+s[at:], plain(), place, e)
	}
}

func TestNumbersAsTheyMayBe(t *testing.T) {
	for _, n := range []uint64{0, 1, 65535, 65536, 1 << 31, 1<<32 - 1} {
		decimal := strconv.FormatUint(n, 10)
		s := decimal + " = 0x" + strconv.FormatUint(n, 16)
		comesTo(t, s, ofSource(t, s, plain()), plain(), api.WayIn, f(), 1)
		s = "ip or proto " + decimal
		if n > 65535 {
			refuses(t, s, plain(), 6, api.ErrTypeRange)
		} else {
			ofSource(t, s, plain())
		}
	}
	refuses(t, "1 = 4294967296", plain(), 4, api.ErrLexNumber)
}
