package parse_test

import (
	"strings"
	"testing"

	"riddle/api"
	"riddle/parse"
)

func TestNothingToRead(t *testing.T) {
	refuses(t, "", 0, api.ErrParseEnd)
	for _, s := range []string{" ", "\t", "\n", "\r", " \t\r\n  ", strings.Repeat(" ", api.MaxSource)} {
		refuses(t, s, len(s), api.ErrParseEnd)
	}
}

// Sources that are whole; each of them, cut behind one of its tokens, is whole too, or lacks what would come at its end.
func TestCutBehindEachToken(t *testing.T) {
	for s, whole := range map[string][]int{
		"ip and not icmp":                 {1, 4},
		"ip [ 2 : 2 ] + 1 > len":          {1, 6, 8, 10},
		"ppp [ 2 ]":                       {4},
		"tcp src portrange 1 - 9":         {1, 6},
		"udp dst port 53":                 {1, 4},
		"portrange 1 - 9 - 3":             {4, 6},
		"dst host 1.2.3.4 or ! ( ip6 )":   {3, 8},
		"net fe80:: / 16 && host ::1":     {4, 7},
		"src net 10.0.0.0 / 8 == inbound": {5, 7},
		"ip6 proto 58 || proto 33":        {1, 3, 6},
		"- ( 1 << 2 ) <= - - 3 ^ len":     {6, 10, 12},
		"( ( ip ) )":                      {5},
	} {
		tokens := strings.Fields(s)
		next := 0
		for count := range tokens {
			cut := strings.Join(tokens[:count+1], " ")
			if next < len(whole) && whole[next] == count+1 {
				next++
				if tree, _, place, e := parse.Parse(cut); e != api.OK || place != 0 || len(tree) == 0 {
					t.Errorf("P11.1: %q: %d, %d", cut, place, e)
				}
				continue
			}
			refuses(t, cut, len(cut), api.ErrParseEnd)
			refuses(t, cut+" \n", len(cut)+2, api.ErrParseEnd)
			refuses(t, cut+" foo", len(cut)+1, api.ErrParseToken)
		}
		if next != len(whole) {
			t.Errorf("%q: only %d of its beginnings were tried", s, next)
		}
		for _, more := range []string{")", "]", "(", "ip", "udp", "ppp", "mp", "5", "len", "not", "!", ":", "inbound", "host 1.2.3.4", "port 5", "1.2.3.4", "1.2", "::", "foo", "src", "1:2:3"} {
			refuses(t, s+" "+more, len(s)+1, api.ErrParseToken)
		}
	}
}

func TestAddressesWhereNoneMustStand(t *testing.T) {
	for _, address := range []string{"1.2.3.4", "1.2.3", "1.", "::", "fe80::1", "1:2:3", ":::"} {
		for _, ahead := range []string{"", "(", "not ", "- ", "ip and ", "1 + ", "ip[", "ip[0: ", "ip ", "proto ", "port ", "portrange ", "portrange 1-", "net 1.2.3.4 ", "net ::/", "src ", "tcp ", "tcp src ", "host 1.2.3.4 ", "host :: "} {
			refuses(t, ahead+address, len(ahead), api.ErrParseToken)
		}
	}
}

func TestWordsThatAreNone(t *testing.T) {
	for _, s := range []string{"foo", "lenx", "ip4", "ipp", "i", "a", "tcpip", "inboun", "nota", "andy", "hosts", "port5", "ip60", "or1", "mp3"} {
		refuses(t, s, 0, api.ErrParseToken)
		refuses(t, "("+s, 1, api.ErrParseToken)
		refuses(t, "ip "+s, 3, api.ErrParseToken)
		refuses(t, "ip and "+s+"[0]", 7, api.ErrParseToken)
		refuses(t, "src "+s, 4, api.ErrParseToken)
	}
	for _, s := range []string{"and", "or", "&&", "||", ")", "]", "[", ":", "=", "==", "!=", "<", "<=", ">", ">=", "|", "^", "&", "<<", ">>", "+", "*", "/", "%"} {
		refuses(t, s, 0, api.ErrParseToken)
		refuses(t, s+" ip", 0, api.ErrParseToken)
		refuses(t, "not "+s+" ip", 4, api.ErrParseToken)
	}
}

func TestBracketsThatDoNotMatch(t *testing.T) {
	refuses(t, "(", 1, api.ErrParseEnd)
	refuses(t, "()", 1, api.ErrParseToken)
	refuses(t, "(ip", 3, api.ErrParseEnd)
	refuses(t, "((ip)", 5, api.ErrParseEnd)
	refuses(t, "ip)", 2, api.ErrParseToken)
	refuses(t, "(ip))", 4, api.ErrParseToken)
	refuses(t, "(ip]", 3, api.ErrParseToken)
	refuses(t, "ip[1)", 4, api.ErrParseToken)
	refuses(t, "ip[(1])", 5, api.ErrParseToken)
	refuses(t, "(ip[1)]", 5, api.ErrParseToken)
	refuses(t, "ip[1]]", 5, api.ErrParseToken)
	refuses(t, "(ip:2)", 3, api.ErrParseToken)
	refuses(t, "ip :", 3, api.ErrParseToken)
	refuses(t, "(ip)(udp)", 4, api.ErrParseToken)
	refuses(t, "(ip) udp", 5, api.ErrParseToken)
}

func TestLexErrorsCount(t *testing.T) {
	refuses(t, "$", 0, api.ErrLexByte)
	refuses(t, "ip and $", 7, api.ErrLexByte)
	refuses(t, "ip and\n007", 7, api.ErrLexNumber)
	refuses(t, "IP", 0, api.ErrLexByte)
	refuses(t, "ip\x00", 2, api.ErrLexByte)
	refuses(t, strings.Repeat("(", api.MaxSource+1), 0, api.ErrLexLong)
	refuses(t, strings.Repeat("ip or ", 1<<15), 0, api.ErrLexLong)

	// Ahead of all errors of tokens, wherever these stand.
	refuses(t, ") $", 2, api.ErrLexByte)
	refuses(t, "ip udp 12ab", 7, api.ErrLexNumber)
	refuses(t, "host 1.2.3 $", 11, api.ErrLexByte)
	refuses(t, strings.Repeat("(", 300)+";", 300, api.ErrLexByte)
	refuses(t, "not 1 007", 6, api.ErrLexNumber)
}

func TestTheFirstErrorCounts(t *testing.T) {
	refuses(t, "ip udp and", 3, api.ErrParseToken)
	refuses(t, "foo host 1.2.3", 0, api.ErrParseToken)
	refuses(t, "host 1.2.3 host ip", 5, api.ErrParseAddr)
	refuses(t, "host 1.2.3 and", 5, api.ErrParseAddr)
	refuses(t, "host ip or host 1.2.3", 5, api.ErrParseToken)
	refuses(t, "net 1.2/", 4, api.ErrParseAddr)
	refuses(t, "1 < 2 < 3 <", 6, api.ErrParseToken)
	refuses(t, "(ip or host 1::2::3", 12, api.ErrParseAddr)
	refuses(t, "(ip)))", 4, api.ErrParseToken)
	deep := strings.Repeat("(", 201)
	refuses(t, deep, 200, api.ErrParseDeep)
	refuses(t, deep+"foo", 200, api.ErrParseDeep)
	refuses(t, deep+"host 1.2", 200, api.ErrParseDeep)
	refuses(t, "ip udp "+deep, 3, api.ErrParseToken)
	refuses(t, "host 1.2 "+deep, 5, api.ErrParseAddr)
	refuses(t, deep[:200]+")"+deep, 200, api.ErrParseToken)
	refuses(t, deep[:200], 200, api.ErrParseEnd)
	refuses(t, deep[:200]+"foo"+deep, 200, api.ErrParseToken)

	// What could not stand there anyway is not read, however many are open.
	refuses(t, deep[:200]+"ip(", 202, api.ErrParseToken)
	refuses(t, deep[:200]+"mp[0]", 202, api.ErrParseToken)
	refuses(t, deep[:200]+"5[0]", 201, api.ErrParseToken)
	refuses(t, deep[:200]+"1+not ip", 202, api.ErrParseToken)
	refuses(t, deep[:200]+"1+!ip", 202, api.ErrParseToken)
	refuses(t, deep[:200]+"proto -1", 206, api.ErrParseToken)
	refuses(t, deep[:200]+"[0]", 200, api.ErrParseToken)
	refuses(t, deep[:200]+"host (", 205, api.ErrParseToken)
	refuses(t, strings.Repeat("-", 200)+"not ip", 200, api.ErrParseToken)
}
