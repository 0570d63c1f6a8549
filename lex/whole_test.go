package lex_test

import (
	"math/big"
	"math/rand"
	"regexp"
	"slices"
	"strings"
	"testing"

	"riddle/api"
	"riddle/lex"
)

// rules are the chapter's rules, each as a pattern of what it takes.
type rules struct {
	six, quad, run, number, sign *regexp.Regexp
}

func theRules() rules {
	var quoted []string
	for _, s := range signs() {
		quoted = append(quoted, regexp.QuoteMeta(s))
	}
	return rules{
		six:    regexp.MustCompile(`^[0-9a-f]*:[0-9a-f]*:[0-9a-f:]*`),
		quad:   regexp.MustCompile(`^[0-9]+\.[0-9.]*`),
		run:    regexp.MustCompile(`^[0-9a-z]+`),
		number: regexp.MustCompile(`^(0|[1-9][0-9]*|0x[0-9a-f]+)$`),
		sign:   regexp.MustCompile(`^(` + strings.Join(quoted, "|") + `)`),
	}
}

// first tells the token at the beginning of rest by the rules, in a second way.
func (r rules) first(rest string) (api.Token, api.Errno) {
	if text := r.six.FindString(rest); text != "" {
		return six(0, text), api.OK
	}
	if text := r.quad.FindString(rest); text != "" {
		return quad(0, text), api.OK
	}
	if text := r.run.FindString(rest); text != "" {
		if text[0] >= 'a' {
			return word(0, text), api.OK
		}
		if !r.number.MatchString(text) {
			return api.Token{}, api.ErrLexNumber
		}
		n, ok := new(big.Int).SetString(text, 0)
		if !ok || n.BitLen() > 32 {
			return api.Token{}, api.ErrLexNumber
		}
		return number(0, text, uint32(n.Uint64())), api.OK
	}
	if text := r.sign.FindString(rest); text != "" {
		return sign(0, text), api.OK
	}
	return api.Token{}, api.ErrLexByte
}

func (r rules) all(s string) ([]api.Token, int, api.Errno) {
	var out []api.Token
	for at := 0; at < len(s); {
		if strings.ContainsRune(" \t\n\r", rune(s[at])) {
			at++
			continue
		}
		token, e := r.first(s[at:])
		if e != api.OK {
			return nil, at, e
		}
		token.At = at
		out = append(out, token)
		at += len(token.Text)
	}
	return append(out, end(len(s))), 0, api.OK
}

// agrees holds a source to the second way, and its tokens to P10.2.
func (r rules) agrees(t *testing.T, s string) {
	t.Helper()
	got, place, e := lex.Lex(s)
	want, wantPlace, wantE := r.all(s)
	if e != wantE || place != wantPlace || !slices.Equal(got, want) {
		t.Fatalf("P10.1: %q: %+v, %d, %d; want %+v, %d, %d", s, got, place, e, want, wantPlace, wantE)
	}
	if e == api.OK {
		nothingLost(t, s, got)
	}
}

// nothingLost holds tokens to be the whole source, but for blanks.
func nothingLost(t *testing.T, s string, tokens []api.Token) {
	t.Helper()
	at := 0
	for _, token := range tokens {
		if token.At < at || strings.Trim(s[at:token.At], " \t\n\r") != "" || !strings.HasPrefix(s[token.At:], token.Text) {
			t.Fatalf("P10.2: %q: %+v does not stand at its place", s, token)
		}
		at = token.At + len(token.Text)
	}
	if at != len(s) || tokens[len(tokens)-1].Kind != api.TokEnd {
		t.Fatalf("P10.2: %q: the tokens end at %d", s, at)
	}
}

func TestEveryShortSource(t *testing.T) {
	r := theRules()
	const alphabet = "019afgx:.<=&! A"
	layer := []string{""}
	for range 4 {
		var longer []string
		for _, s := range layer {
			for i := range len(alphabet) {
				longer = append(longer, s+alphabet[i:i+1])
			}
		}
		for _, s := range longer {
			r.agrees(t, s)
		}
		layer = longer
	}
}

func TestManySources(t *testing.T) {
	r := theRules()
	chance := rand.New(rand.NewSource(10))
	pieces := append(signs(), strings.Fields("0 0x 0xf 00 1 12 4294967295 4294967296 0xffffffff 0x100000000 a fe g ip ip6 x1 : :: a:b 1: 10. .5 1.2.3.4 fe80::1 z")...)
	pieces = append(pieces, blanks()...)
	for range 60000 {
		var s string
		for range chance.Intn(9) {
			s += pieces[chance.Intn(len(pieces))]
		}
		r.agrees(t, s)
	}
	for range 20000 {
		s := make([]byte, chance.Intn(6))
		for i := range s {
			s[i] = byte(chance.Intn(256))
		}
		r.agrees(t, string(s))
	}
}

// some tells blanks of all kinds, at least so many.
func some(chance *rand.Rand, least int) string {
	var out string
	for range least + chance.Intn(4) {
		out += blanks()[chance.Intn(4)]
	}
	return out
}

// alone tells tokens as they are without their places.
func alone(tokens []api.Token) []api.Token {
	out := slices.Clone(tokens)
	for i := range out {
		out[i].At = 0
	}
	return out
}

func TestBlanksChangePlacesAlone(t *testing.T) {
	chance := rand.New(rand.NewSource(2))
	pieces := append(signs(), strings.Fields("0 0x0f 1 12 4294967295 0xffffffff a fe g ip ip6 x1 face :: a:b:c 1::f 10. 1.2.3.4 1..2 fe80::1 z9")...)
	for range 20000 {
		var want []api.Token
		s := some(chance, 0)
		for range chance.Intn(9) {
			piece := pieces[chance.Intn(len(pieces))]
			itself, _, e := lex.Lex(piece)
			if e != api.OK || len(itself) != 2 || itself[0].Text != piece {
				t.Fatalf("P10.2: %q is no token: %+v, %d", piece, itself, e)
			}
			itself[0].At = len(s)
			want = append(want, itself[0])
			s += piece + some(chance, 1)
		}
		gives(t, s, want...)
	}
}

// Sources whose tokens stand close together, and the same with blanks between them.
func TestBlanksAddedBetween(t *testing.T) {
	chance := rand.New(rand.NewSource(3))
	sources := []string{"ip[2:2]", "face:1", "1:2", "x:a:b", "1.2:3:4", "1.2ab", "xa::b", "0x1:a:b", "<<<=>>>!==", "|||&", "1<=0x0f", "a&&!b", "net 10.0.0.0/8", "a:bx::", "((ip[0]&0xf)<<2)!=20", "1.a 1.2z", "g0:1", ""}
	for _, a := range signs() {
		for _, b := range signs() {
			sources = append(sources, a+b, a+b+a)
		}
	}
	for _, s := range sources {
		tokens, _, e := lex.Lex(s)
		if e != api.OK {
			t.Fatalf("P10.2: %q: %d", s, e)
		}
		nothingLost(t, s, tokens)
		for range 20 {
			var wide string
			at := 0
			for _, token := range tokens {
				wide += s[at:token.At] + some(chance, 0) + token.Text
				at = token.At + len(token.Text)
			}
			got, _, e := lex.Lex(wide)
			if e != api.OK || !slices.Equal(alone(got), alone(tokens)) {
				t.Errorf("P10.2: %q: %+v, %d; %q has %+v", wide, got, e, s, tokens)
			}
			nothingLost(t, wide, got)
		}
		for _, token := range tokens {
			token.At = 0
			itself, _, e := lex.Lex(token.Text)
			if e != api.OK || itself[0] != token {
				t.Errorf("P10.2: %q by itself: %+v, %d; in %q %+v", token.Text, itself, e, s, token)
			}
		}
	}
}

func TestMemory(t *testing.T) {
	for _, s := range []string{"", " ", "ip[2:2]", "a&&!b 1.2.3.4 fe80::1 0x10", strings.Repeat("a ", 999)} {
		first, _, _ := lex.Lex(s)
		want := slices.Clone(first)
		second, _, _ := lex.Lex(s)
		second = second[:cap(second)]
		for i := range second {
			second[i] = api.Token{Kind: 77, At: -1, Text: "?", N: 77}
		}
		if !slices.Equal(first, want) {
			t.Errorf("R3: %.20q: two answers share memory", s)
		}
		third, _, _ := lex.Lex(s)
		if !slices.Equal(third, want) {
			t.Errorf("R3: %.20q: an answer hangs on what was written into an earlier one", s)
		}
		lex.Lex("another " + s)
		lex.Lex("A")
		if !slices.Equal(first, want) || !slices.Equal(third, want) {
			t.Errorf("R3: %.20q: a later call changed an answer", s)
		}
	}
}

func BenchmarkLex(b *testing.B) {
	for name, s := range map[string]string{
		"words":   strings.Repeat("a ", api.MaxSource/2),
		"colons":  strings.Repeat("a:b ", api.MaxSource/4),
		"numbers": strings.Repeat("4294967295 ", api.MaxSource/11),
		"one":     "1:" + strings.Repeat("a", api.MaxSource-2),
	} {
		b.Run(name, func(b *testing.B) {
			for b.Loop() {
				lex.Lex(s)
			}
		})
	}
}
