package lex_test

import (
	"slices"
	"strings"
	"testing"

	"riddle/api"
	"riddle/lex"
)

func word(at int, text string) api.Token { return api.Token{Kind: api.TokWord, At: at, Text: text} }
func quad(at int, text string) api.Token { return api.Token{Kind: api.TokQuad, At: at, Text: text} }
func six(at int, text string) api.Token  { return api.Token{Kind: api.TokSix, At: at, Text: text} }
func sign(at int, text string) api.Token { return api.Token{Kind: api.TokSign, At: at, Text: text} }
func end(at int) api.Token               { return api.Token{Kind: api.TokEnd, At: at} }

func number(at int, text string, n uint32) api.Token {
	return api.Token{Kind: api.TokNumber, At: at, Text: text, N: n}
}

// signs are all of the chapter's list.
func signs() []string {
	return strings.Fields("<< >> <= >= == != && || ( ) [ ] : + - * / % & | ^ < > = !")
}

func blanks() []string { return []string{" ", "\t", "\n", "\r"} }

// gives holds a source to its tokens, the end behind them with them.
func gives(t *testing.T, s string, want ...api.Token) {
	t.Helper()
	got, place, e := lex.Lex(s)
	want = append(slices.Clone(want), end(len(s)))
	if e != api.OK || place != 0 || !slices.Equal(got, want) {
		t.Errorf("P10.1: %.60q: %+v, %d, %d; want %+v", s, got, place, e, want)
	}
}

// refuses holds a source to its error, and to nothing beside that but the place.
func refuses(t *testing.T, s string, place int, e api.Errno) {
	t.Helper()
	got, at, err := lex.Lex(s)
	if err != e || at != place || len(got) != 0 {
		t.Errorf("P10.1: %.60q: %d tokens, %d, %d; want %d, %d", s, len(got), at, err, place, e)
	}
}

func TestExamples(t *testing.T) {
	gives(t, "ip[2:2]", word(0, "ip"), sign(2, "["), number(3, "2", 2), sign(4, ":"), number(5, "2", 2), sign(6, "]"))
	gives(t, "host fe80::1", word(0, "host"), six(5, "fe80::1"))
	gives(t, "net 10.0.0.0/8", word(0, "net"), quad(4, "10.0.0.0"), sign(12, "/"), number(13, "8", 8))
	gives(t, "1<=0x0f", number(0, "1", 1), sign(1, "<="), number(3, "0x0f", 15))
	gives(t, "a&&!b", word(0, "a"), sign(1, "&&"), sign(3, "!"), word(4, "b"))
	gives(t, "")
	gives(t, "dead::", six(0, "dead::"))
	gives(t, "1.", quad(0, "1."))
	gives(t, "face:1", word(0, "face"), sign(4, ":"), number(5, "1", 1))
	refuses(t, "1 007", 2, api.ErrLexNumber)
	refuses(t, "12ab", 0, api.ErrLexNumber)
	refuses(t, "4294967296", 0, api.ErrLexNumber)
	refuses(t, "0x", 0, api.ErrLexNumber)
	refuses(t, "a A", 2, api.ErrLexByte)
	refuses(t, "a;", 1, api.ErrLexByte)
}

func TestBlanksAlone(t *testing.T) {
	for _, b := range blanks() {
		gives(t, b)
		gives(t, strings.Repeat(b, 5))
		gives(t, b+"a"+b+b+"1"+b, word(1, "a"), number(4, "1", 1))
	}
	gives(t, " \t\n\r\r\n\t ")
}

func TestLongSources(t *testing.T) {
	for _, x := range []struct {
		piece string
		kind  int
	}{{"a", api.TokWord}, {"z9", api.TokWord}, {"1.", api.TokQuad}, {"::", api.TokSix}} {
		s := strings.Repeat(x.piece, api.MaxSource/len(x.piece))
		gives(t, s, api.Token{Kind: x.kind, Text: s})
		refuses(t, s+"a", 0, api.ErrLexLong)
	}
	gives(t, strings.Repeat(" ", api.MaxSource))
	gives(t, strings.Repeat("\n", api.MaxSource-1)+"0", number(api.MaxSource-1, "0", 0))
	refuses(t, strings.Repeat(" ", api.MaxSource+1), 0, api.ErrLexLong)
	refuses(t, strings.Repeat(" ", api.MaxSource-1)+";", api.MaxSource-1, api.ErrLexByte)
	refuses(t, strings.Repeat(";", api.MaxSource+1), 0, api.ErrLexLong)
	refuses(t, strings.Repeat("7", api.MaxSource+1), 0, api.ErrLexLong)
	refuses(t, strings.Repeat("a ", 1<<20), 0, api.ErrLexLong)

	want := make([]api.Token, 0, api.MaxSource)
	for at := range api.MaxSource {
		want = append(want, sign(at, "("))
	}
	gives(t, strings.Repeat("(", api.MaxSource), want...)
}

func TestColons(t *testing.T) {
	gives(t, "a", word(0, "a"))
	gives(t, "12", number(0, "12", 12))
	gives(t, ":", sign(0, ":"))
	gives(t, "a:b", word(0, "a"), sign(1, ":"), word(2, "b"))
	gives(t, "12:34", number(0, "12", 12), sign(2, ":"), number(3, "34", 34))
	gives(t, ":f", sign(0, ":"), word(1, "f"))
	gives(t, "f:", word(0, "f"), sign(1, ":"))
	for _, text := range []string{"::", ":::", "a::", "::a", ":a:", "a:b:c", "1:2:3", "12ab:34:", ":0:", "007::", "fe80::1", "0:1:2:3:4:5:6:7", ":::::::::", "abcdef0123456789::"} {
		gives(t, text, six(0, text))
		gives(t, "("+text+")", sign(0, "("), six(1, text), sign(1+len(text), ")"))
	}

	// The run is that from the token's own first byte on, and what stands ahead of it is not in it.
	gives(t, "g:a:b", word(0, "g"), six(1, ":a:b"))
	gives(t, "xa::b", word(0, "xa"), six(2, "::b"))
	gives(t, "0x1:a:b", number(0, "0x1", 1), six(3, ":a:b"))
	gives(t, "1.2:3:4", quad(0, "1.2"), six(3, ":3:4"))
	gives(t, "a::g", six(0, "a::"), word(3, "g"))
	refuses(t, "1::.2", 3, api.ErrLexByte)
	gives(t, "1:2 :3", number(0, "1", 1), sign(1, ":"), number(2, "2", 2), sign(4, ":"), number(5, "3", 3))
	gives(t, "a:bg:c", word(0, "a"), sign(1, ":"), word(2, "bg"), sign(4, ":"), word(5, "c"))
	gives(t, "a:bx::", word(0, "a"), sign(1, ":"), word(2, "bx"), six(4, "::"))
	gives(t, "face", word(0, "face"))
	gives(t, "facet::", word(0, "facet"), six(5, "::"))
	refuses(t, "12ab:1", 0, api.ErrLexNumber)
	refuses(t, "a:01", 2, api.ErrLexNumber)
	refuses(t, "A::", 0, api.ErrLexByte)
	refuses(t, "::A", 2, api.ErrLexByte)
}

func TestDots(t *testing.T) {
	for _, text := range []string{"1.", "1.2", "1..2", "10.0.0.0", "1.2.3.4.5", "007.", "0.", "99999999999.", "1....", "256.256.256.256"} {
		gives(t, text, quad(0, text))
		gives(t, "!"+text+"=", sign(0, "!"), quad(1, text), sign(1+len(text), "="))
	}
	gives(t, "1.a", quad(0, "1."), word(2, "a"))
	gives(t, "1.2ab", quad(0, "1.2"), word(3, "ab"))
	gives(t, "a1 1.0x1", word(0, "a1"), quad(3, "1.0"), word(6, "x1"))
	gives(t, "1.2:3", quad(0, "1.2"), sign(3, ":"), number(4, "3", 3))
	gives(t, "1.2/3", quad(0, "1.2"), sign(3, "/"), number(4, "3", 3))
	gives(t, "1. 2", quad(0, "1."), number(3, "2", 2))
	refuses(t, ".", 0, api.ErrLexByte)
	refuses(t, ".1", 0, api.ErrLexByte)
	refuses(t, "a.b", 1, api.ErrLexByte)
	refuses(t, "0x1.2", 3, api.ErrLexByte)
	refuses(t, "1 .2", 2, api.ErrLexByte)
	refuses(t, "1a.2", 0, api.ErrLexNumber)
}

func TestNumbers(t *testing.T) {
	for _, x := range []struct {
		text string
		n    uint32
	}{
		{"0", 0}, {"1", 1}, {"9", 9}, {"10", 10}, {"1234567890", 1234567890},
		{"4294967295", 4294967295}, {"4294967294", 4294967294},
		{"0x0", 0}, {"0x9", 9}, {"0xa", 10}, {"0xf", 15}, {"0x0f", 15}, {"0x10", 16}, {"0x00000000", 0},
		{"0x89abcdef", 0x89abcdef}, {"0x01234567", 0x01234567}, {"0xffffffff", 0xffffffff},
		{"0x0ffffffff", 0xffffffff}, {"0x00000000000000000001", 1},
		{"0x" + strings.Repeat("0", 60000) + "fedcba98", 0xfedcba98},
	} {
		gives(t, x.text, number(0, x.text, x.n))
		gives(t, "\t"+x.text+"]", number(1, x.text, x.n), sign(1+len(x.text), "]"))
	}
	for _, text := range []string{
		"00", "01", "007", "00000000000", "04294967295", "4294967296", "4294967297", "5000000000",
		"10000000000", "18446744073709551615", "18446744073709551616", "18446744073709551617",
		"99999999999999999999999999999999", strings.Repeat("9", api.MaxSource), "1" + strings.Repeat("0", 60000),
		"0x", "0xg", "0x1g", "0x100000000", "0x1ffffffff", "0x10000000000000000", "0x10000000000000001",
		"0x" + strings.Repeat("f", 60000), "00x1", "1x1", "0x0x1", "0xx1", "0b1", "0o7", "0a", "0z",
		"1a", "12ab", "1z", "9x", "4294967295a", "1e5", "1f",
	} {
		refuses(t, text, 0, api.ErrLexNumber)
		refuses(t, "ip "+text[:min(len(text), 60000)], 3, api.ErrLexNumber)
	}
	// A capital letter ends the number, and begins nothing.
	refuses(t, "0X1", 1, api.ErrLexByte)
	refuses(t, "0xA", 0, api.ErrLexNumber)
	refuses(t, "0x1A", 3, api.ErrLexByte)
	refuses(t, "1A", 1, api.ErrLexByte)
	refuses(t, "1_0", 1, api.ErrLexByte)
	refuses(t, "0x_1", 0, api.ErrLexNumber)
	gives(t, "-1", sign(0, "-"), number(1, "1", 1))
	gives(t, "+1", sign(0, "+"), number(1, "1", 1))
	gives(t, "0-0x1", number(0, "0", 0), sign(1, "-"), number(2, "0x1", 1))
}

func TestWords(t *testing.T) {
	for _, text := range []string{"a", "z", "f", "g", "ip", "ip6", "ip6cp", "x1", "a0", "a007", "x4294967296", "e5z", "abcdefghijklmnopqrstuvwxyz0123456789", "inbound", "o0x"} {
		gives(t, text, word(0, text))
		gives(t, text+"("+text, word(0, text), sign(len(text), "("), word(len(text)+1, text))
		gives(t, text+" "+text, word(0, text), word(len(text)+1, text))
	}
	refuses(t, "iP", 1, api.ErrLexByte)
	refuses(t, "a_b", 1, api.ErrLexByte)
	refuses(t, "a\x00", 1, api.ErrLexByte)
}

// Each pair side by side is one sign where the list has it; else the longest sign there, and what is left.
func TestSigns(t *testing.T) {
	for _, a := range signs() {
		gives(t, a, sign(0, a))
		gives(t, "x"+a+"1", word(0, "x"), sign(1, a), number(1+len(a), "1", 1))
		for _, b := range signs() {
			for _, blank := range blanks() {
				gives(t, a+blank+b, sign(0, a), sign(len(a)+1, b))
			}
			gives(t, a+b, cut(a+b)...)
		}
	}
	gives(t, "<<<=>>>!==", sign(0, "<<"), sign(2, "<="), sign(4, ">>"), sign(6, ">"), sign(7, "!="), sign(9, "="))
	gives(t, "|||&", sign(0, "||"), sign(2, "|"), sign(3, "&"))
	gives(t, "===", sign(0, "=="), sign(2, "="))
	gives(t, "=<=!", sign(0, "="), sign(1, "<="), sign(3, "!"))
	gives(t, "!!=", sign(0, "!"), sign(1, "!="))
	gives(t, "+-*/%^()[]", sign(0, "+"), sign(1, "-"), sign(2, "*"), sign(3, "/"), sign(4, "%"), sign(5, "^"), sign(6, "("), sign(7, ")"), sign(8, "["), sign(9, "]"))
}

// cut tells the tokens of a text of signs alone.
func cut(s string) []api.Token {
	if s == "::" {
		return []api.Token{six(0, s)}
	}
	var out []api.Token
	for at := 0; at < len(s); {
		size := 1
		if at+2 <= len(s) && slices.Contains(signs(), s[at:at+2]) {
			size = 2
		}
		out = append(out, sign(at, s[at:at+size]))
		at += size
	}
	return out
}

func TestBytes(t *testing.T) {
	for c := range 256 {
		s := string([]byte{byte(c)})
		switch {
		case strings.Contains(" \t\n\r", s):
			gives(t, s)
		case c >= '0' && c <= '9':
			gives(t, s, number(0, s, uint32(c-'0')))
		case c >= 'a' && c <= 'z':
			gives(t, s, word(0, s))
		case strings.Contains("()[]:+-*/%&|^<>=!", s):
			gives(t, s, sign(0, s))
		default:
			refuses(t, s, 0, api.ErrLexByte)
			refuses(t, " "+s+" ", 1, api.ErrLexByte)
			refuses(t, "ip"+s+"ip", 2, api.ErrLexByte)
			refuses(t, "0x1"+s, 3, api.ErrLexByte)
			refuses(t, "<"+s, 1, api.ErrLexByte)
		}
	}
	refuses(t, "é", 0, api.ErrLexByte)
	refuses(t, "ipé", 2, api.ErrLexByte)
	refuses(t, "\u00a0", 0, api.ErrLexByte)
	refuses(t, "a\u2003b", 1, api.ErrLexByte)
	refuses(t, "٣", 0, api.ErrLexByte)
	refuses(t, "\v", 0, api.ErrLexByte)
	refuses(t, "\f", 0, api.ErrLexByte)
}

func TestFirstErrorCounts(t *testing.T) {
	refuses(t, "a 1x A", 2, api.ErrLexNumber)
	refuses(t, "a A 1x", 2, api.ErrLexByte)
	refuses(t, "A007", 0, api.ErrLexByte)
	refuses(t, "007A", 0, api.ErrLexNumber)
	refuses(t, ";;", 0, api.ErrLexByte)
	refuses(t, "1 2 3 00 01", 6, api.ErrLexNumber)
	refuses(t, strings.Repeat("a ", 30000)+"# 01", 60000, api.ErrLexByte)
	refuses(t, strings.Repeat("a", api.MaxSource)+"A", 0, api.ErrLexLong)
}
