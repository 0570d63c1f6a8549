package addr_test

import (
	"math/rand"
	"regexp"
	"strconv"
	"strings"
	"testing"

	"riddle/addr"
	"riddle/api"
)

// six tells the address whose first groups these are; the others are 0.
func six(groups ...uint16) [16]byte {
	var a [16]byte
	for i, v := range groups {
		a[2*i], a[2*i+1] = byte(v>>8), byte(v)
	}
	return a
}

func TestFour(t *testing.T) {
	for _, x := range []struct {
		s string
		a [4]byte
	}{
		{"0.0.0.0", [4]byte{}},
		{"10.0.0.255", [4]byte{10, 0, 0, 255}},
		{"255.255.255.255", [4]byte{255, 255, 255, 255}},
		{"1.2.3.4", [4]byte{1, 2, 3, 4}},
		{"9.10.99.100", [4]byte{9, 10, 99, 100}},
		{"199.200.249.250", [4]byte{199, 200, 249, 250}},
	} {
		if a, e := addr.Parse4(x.s); e != api.OK || a != x.a {
			t.Errorf("P6.1: Parse4(%q) = %v, %d", x.s, a, e)
		}
		if s := addr.Print4(x.a); s != x.s {
			t.Errorf("P6.1: Print4(%v) = %q; want %q", x.a, s, x.s)
		}
	}
}

func TestFourRefuses(t *testing.T) {
	long := strings.Repeat("1", 1<<20)
	for _, s := range []string{
		"", ".", "...", "....", "1", "1.2", "1.2.3", "1.2.3.4.5", "1.2.3.4.5.6", "1.2.3.", ".1.2.3", ".1.2.3.4", "1.2.3.4.",
		"1..2.3", "1..2.3.4", "1.2..3", "1.2.3..4", "1,2.3.4", "1.2.3:4", "1 .2.3.4", "1.2.3.4 ", " 1.2.3.4", "1.2.3.4\n", "1.2.3. 4", "\t1.2.3.4", "1.2.3.4\x00",
		"1.2.3.04", "00.1.2.3", "1.00.2.3", "1.2.000.3", "01.2.3.4", "1.2.3.010",
		"1.2.3.+4", "1.2.3.-0", "-1.2.3.4", "+1.2.3.4", "1.2.3.4-", "1.2.3.0x1", "1.2.3.a", "1.2.3./", "1.2.3.:", "1.2.3.1e1", "1.2.3.1_0",
		"1.2.3.256", "256.0.0.0", "1.300.3.4", "1.2.999.4", "1.2.3.1000", "1.2.3.260", "1.2.3.65537", "1.2.3.4294967297", "1.2.3.18446744073709551617", "1.2.3.512",
		"1.2.3." + long, long + ".1.2.3", long, strings.Repeat("1.", 1<<20), strings.Repeat(".", 1<<20), "1.2.3.4" + strings.Repeat(".1", 1<<20),
		"::", "1.2.3.4/8", "\u0661.2.3.4", "1.2.3.\uff11",
	} {
		if a, e := addr.Parse4(s); e != api.ErrAddrForm || a != [4]byte{} {
			t.Errorf("P6.1: Parse4(%.40q) = %v, %d", s, a, e)
		}
	}
}

// TestFourAtEveryNumber has each number, and each one that is too great or written at too great a length, at each place.
func TestFourAtEveryNumber(t *testing.T) {
	for at := range 4 {
		for v := range 1100 {
			texts := []string{"7", "0", "255", "10"}
			texts[at] = strconv.Itoa(v)
			s := strings.Join(texts, ".")
			a, e := addr.Parse4(s)
			want := [4]byte{7, 0, 255, 10}
			want[at] = byte(v)
			if v > 255 && (e != api.ErrAddrForm || a != [4]byte{}) || v <= 255 && (e != api.OK || a != want || addr.Print4(a) != s) {
				t.Fatalf("P6.1: Parse4(%q) = %v, %d", s, a, e)
			}
			for _, noughts := range []string{"0", "00"} {
				texts[at] = noughts + strconv.Itoa(v)
				if a, e := addr.Parse4(strings.Join(texts, ".")); e != api.ErrAddrForm || a != [4]byte{} {
					t.Fatalf("P6.1: Parse4(%q) = %v, %d", strings.Join(texts, "."), a, e)
				}
			}
		}
	}
}

func TestSix(t *testing.T) {
	for _, x := range []struct {
		s    string
		a    [16]byte
		text string
	}{
		{"::", six(), "::"},
		{"0:0:0:0:0:0:0:0", six(), "::"},
		{"0::0", six(), "::"},
		{"0000::", six(), "::"},
		{"1::2", six(1, 0, 0, 0, 0, 0, 0, 2), "1::2"},
		{"fe80::1:0:0:2", six(0xfe80, 0, 0, 0, 1, 0, 0, 2), "fe80::1:0:0:2"},
		{"1:2:3:4:5:6:7:8", six(1, 2, 3, 4, 5, 6, 7, 8), "1:2:3:4:5:6:7:8"},
		{"0001:02:3:4:5:6:7:8", six(1, 2, 3, 4, 5, 6, 7, 8), "1:2:3:4:5:6:7:8"},
		{"abcd:bcd:cd:d:9:89:789:6789", six(0xabcd, 0xbcd, 0xcd, 0xd, 9, 0x89, 0x789, 0x6789), "abcd:bcd:cd:d:9:89:789:6789"},
		{"0abc:00bc:000c:a000:b00:c0:10:e", six(0xabc, 0xbc, 0xc, 0xa000, 0xb00, 0xc0, 0x10, 0xe), "abc:bc:c:a000:b00:c0:10:e"},
		{"ffff:ffff:ffff:ffff:ffff:ffff:ffff:ffff", six(0xffff, 0xffff, 0xffff, 0xffff, 0xffff, 0xffff, 0xffff, 0xffff), "ffff:ffff:ffff:ffff:ffff:ffff:ffff:ffff"},
		// `::` with seven groups stands for one.
		{"1:2:3:4:5:6:7::", six(1, 2, 3, 4, 5, 6, 7), "1:2:3:4:5:6:7:0"},
		{"::2:3:4:5:6:7:8", six(0, 2, 3, 4, 5, 6, 7, 8), "0:2:3:4:5:6:7:8"},
		{"1:2::4:5:6:7:8", six(1, 2, 0, 4, 5, 6, 7, 8), "1:2:0:4:5:6:7:8"},
		// Rows of noughts: none, ones alone, one at each end, several.
		{"1:2:3:4:0:6:7:8", six(1, 2, 3, 4, 0, 6, 7, 8), "1:2:3:4:0:6:7:8"},
		{"0:1:0:1:0:1:0:1", six(0, 1, 0, 1, 0, 1, 0, 1), "0:1:0:1:0:1:0:1"},
		{"1:0:1:0:1:0:1:0", six(1, 0, 1, 0, 1, 0, 1, 0), "1:0:1:0:1:0:1:0"},
		{"1:0:0:2:0:0:0:3", six(1, 0, 0, 2, 0, 0, 0, 3), "1:0:0:2::3"},
		{"1:0:0:0:2:0:0:3", six(1, 0, 0, 0, 2, 0, 0, 3), "1::2:0:0:3"},
		{"1:0:0:2:3::4", six(1, 0, 0, 2, 3, 0, 0, 4), "1::2:3:0:0:4"},
		{"0:0:1:0:0:1:0:0", six(0, 0, 1, 0, 0, 1, 0, 0), "::1:0:0:1:0:0"},
		{"0:0:1:0:0:0:1:0", six(0, 0, 1, 0, 0, 0, 1, 0), "0:0:1::1:0"},
		{"0:0:1:1:1:0:0:0", six(0, 0, 1, 1, 1, 0, 0, 0), "0:0:1:1:1::"},
		{"0:0:0:1:1:1:0:0", six(0, 0, 0, 1, 1, 1, 0, 0), "::1:1:1:0:0"},
		{"0:1:0:0:1:1:1:0", six(0, 1, 0, 0, 1, 1, 1, 0), "0:1::1:1:1:0"},
		{"0:1:1:0:1:1:0:0", six(0, 1, 1, 0, 1, 1, 0, 0), "0:1:1:0:1:1::"},
		{"0:0:1:2:3:4:5:6", six(0, 0, 1, 2, 3, 4, 5, 6), "::1:2:3:4:5:6"},
		{"1:2:3:4:5:6:0:0", six(1, 2, 3, 4, 5, 6), "1:2:3:4:5:6::"},
		{"::ffff", six(0, 0, 0, 0, 0, 0, 0, 0xffff), "::ffff"},
		{"ffff::", six(0xffff), "ffff::"},
		{"1:0::", six(1), "1::"},
		{"::0:1", six(0, 0, 0, 0, 0, 0, 0, 1), "::1"},
		{"0:0::1:0", six(0, 0, 0, 0, 0, 0, 1, 0), "::1:0"},
		{"::ffff:102:304", six(0, 0, 0, 0, 0, 0xffff, 0x102, 0x304), "::ffff:102:304"},
	} {
		if a, e := addr.Parse6(x.s); e != api.OK || a != x.a {
			t.Errorf("P6.2: Parse6(%q) = %x, %d; want %x", x.s, a, e, x.a)
		}
		if s := addr.Print6(x.a); s != x.text {
			t.Errorf("P6.2: Print6(%x) = %q; want %q", x.a, s, x.text)
		}
	}
}

func TestSixRefuses(t *testing.T) {
	for _, s := range []string{
		"", ":", ":::", "::::", ":::::", "1", "1:", ":1", "1:2", "1:2:3:4:5:6:7", "1:2:3:4:5:6:7:8:9", "1:2:3:4:5:6:7:", ":2:3:4:5:6:7:8", "1:2:3:4:5:6:7:8:", ":1:2:3:4:5:6:7:8",
		"1:2:3:4:5:6:7:8::", "::1:2:3:4:5:6:7:8", "1:2:3:4::5:6:7:8", "1::2:3:4:5:6:7:8", "1:2:3:4:5:6:7::8", "1:2:3:4::5:6:7:8:9", "1:2:3:4:5:6:7:8:9::", "::1:2:3:4:5:6:7:8:9",
		"1::2::3", "::1::", "1::::2", "::::1", "1::2::", "::1::2", "1:2::3:4::5:6",
		":1::", "::1:", "1:::2", ":::1", "1:::", ":1::2", "1::2:", ":::", ": :", ":1:2::", "::2:1:",
		"12345::", "::12345", "00001::", "1:2:3:4:5:6:7:00008", "1:2:3:12345:5:6:7:8", "::100000000", "::10000000000000001",
		"A::", "::F", "1:2:3:4:5:6:7:aB", "g::", "::g", "::0x1", "::-1", "::+1", "::1.2.3.4", "1.2.3.4", "1:2:3:4:5:6:1.2.3.4", "::1%1", "::1/64", "::/", "::@", "::`",
		" ::", ":: ", "1: :2", "::1\n", "\t::", "::\x00", "1:2:3:4:5:6:7: 8", "\u0661::", "::\uff11",
		strings.Repeat("1", 1<<20), strings.Repeat("1:", 1<<20), "::" + strings.Repeat("1:", 1<<20), strings.Repeat(":", 1<<20), strings.Repeat("0", 1<<20) + "::", "::" + strings.Repeat("0:", 1<<20) + "0",
	} {
		if a, e := addr.Parse6(s); e != api.ErrAddrForm || a != [16]byte{} {
			t.Errorf("P6.2: Parse6(%.40q) = %x, %d", s, a, e)
		}
	}
}

// forms6 tells what the chapter says of texts of addresses of 16 bytes as patterns: how many groups stand ahead of `::` and behind it (-1: there is none), and the text then.
func forms6() map[[2]int]*regexp.Regexp {
	row := func(n int) string {
		return strings.TrimSuffix(strings.Repeat("([0-9a-f]{1,4}):", n), ":")
	}
	out := map[[2]int]*regexp.Regexp{{8, -1}: regexp.MustCompile(`\A` + row(8) + `\z`)}
	for ahead := range 8 {
		for behind := range 8 - ahead {
			out[[2]int{ahead, behind}] = regexp.MustCompile(`\A` + row(ahead) + "::" + row(behind) + `\z`)
		}
	}
	return out
}

// read6 reads by the patterns.
func read6(forms map[[2]int]*regexp.Regexp, s string) ([16]byte, bool) {
	for shape, form := range forms {
		found := form.FindStringSubmatch(s)
		if found == nil {
			continue
		}
		var groups [8]uint16
		for i, digits := range found[1:] {
			v, _ := strconv.ParseUint(digits, 16, 16)
			if i >= shape[0] {
				i += 8 - len(found[1:])
			}
			groups[i] = uint16(v)
		}
		return six(groups[:]...), true
	}
	return [16]byte{}, false
}

// garbled tells a text of few kinds of parts, often nearly a text of an address of usual parts.
func garbled(r *rand.Rand, usual int, parts []string, mark string) string {
	n := usual
	if r.Intn(2) == 0 {
		n = 1 + r.Intn(usual+1)
	}
	texts := make([]string, n)
	for i := range texts {
		texts[i] = parts[r.Intn(len(parts)-3)]
		if r.Intn(20) == 0 {
			texts[i] = parts[len(parts)-1-r.Intn(3)]
		}
	}
	s := strings.Join(texts, mark)
	if r.Intn(2) == 0 {
		at := r.Intn(len(s) + 1)
		s = s[:at] + mark + s[at:]
	}
	return s
}

func TestSixAsThePatternsSay(t *testing.T) {
	r := rand.New(rand.NewSource(6))
	forms := forms6()
	taken := 0
	for range 60000 {
		s := garbled(r, 8, []string{"0", "1", "00", "0a0", "f", "ffff", "10", "255", "a", "0000", "", "12345", "B"}, ":")
		want, ok := read6(forms, s)
		a, e := addr.Parse6(s)
		if (e == api.OK) != ok || a != want || !ok && e != api.ErrAddrForm {
			t.Fatalf("P6.2: Parse6(%q) = %x, %d; want %x, %v", s, a, e, want, ok)
		}
		if ok {
			taken++
		}
	}
	if taken < 5000 {
		t.Errorf("only %d texts of addresses among them", taken)
	}
}

// TestSixAtEveryShape has each number of groups ahead of `::` and behind it.
func TestSixAtEveryShape(t *testing.T) {
	for ahead := range 10 {
		for behind := range 10 {
			row := func(n int) string { return strings.TrimSuffix(strings.Repeat("a:", n), ":") }
			s := row(ahead) + "::" + row(behind)
			var want [16]byte
			if ahead+behind <= 7 {
				for i := range ahead {
					want[2*i+1] = 10
				}
				for i := range behind {
					want[15-2*i] = 10
				}
			}
			a, e := addr.Parse6(s)
			if a != want || (e == api.OK) != (ahead+behind <= 7) {
				t.Errorf("P6.2: Parse6(%q) = %x, %d; want %x", s, a, e, want)
			}
		}
	}
}

func TestFourAsThePatternSays(t *testing.T) {
	r := rand.New(rand.NewSource(4))
	const number = `(0|[1-9][0-9]?|1[0-9][0-9]|2[0-4][0-9]|25[0-5])`
	form := regexp.MustCompile(`\A` + number + `\.` + number + `\.` + number + `\.` + number + `\z`)
	taken := 0
	for range 60000 {
		s := garbled(r, 4, []string{"0", "1", "10", "99", "100", "199", "200", "249", "250", "255", "256", "", "00"}, ".")
		ok := form.MatchString(s)
		a, e := addr.Parse4(s)
		if (e == api.OK) != ok || !ok && (e != api.ErrAddrForm || a != [4]byte{}) || ok && addr.Print4(a) != s {
			t.Fatalf("P6.1: Parse4(%q) = %v, %d", s, a, e)
		}
		if ok {
			taken++
		}
	}
	if taken < 5000 {
		t.Errorf("only %d texts of addresses among them", taken)
	}
}

// text6 writes by trying: of all ways to leave out a row of two noughts or more, that of the longest row, then of the first.
func text6(a [16]byte) string {
	texts := make([]string, 8)
	for i := range texts {
		texts[i] = strconv.FormatUint(uint64(a[2*i])<<8|uint64(a[2*i+1]), 16)
	}
	for size := 8; size >= 2; size-- {
		for at := range 8 - size + 1 {
			if strings.Count(strings.Join(texts[at:at+size], ""), "0") == size && len(strings.Join(texts[at:at+size], "")) == size {
				return strings.Join(texts[:at], ":") + "::" + strings.Join(texts[at+size:], ":")
			}
		}
	}
	return strings.Join(texts, ":")
}

// TestSixAtEveryRow has every set of groups that are 0.
func TestSixAtEveryRow(t *testing.T) {
	forms := forms6()
	for set := range 256 {
		var groups [8]uint16
		for i := range groups {
			if set>>i&1 != 0 {
				groups[i] = []uint16{1, 0x10, 0x100, 0x1000, 0xffff, 0xa0b, 0xf0, 0x2001}[(i+set)%8]
			}
		}
		a := six(groups[:]...)
		s := addr.Print6(a)
		if s != text6(a) {
			t.Errorf("P6.2: Print6(%x) = %q; want %q", a, s, text6(a))
		}
		if b, ok := read6(forms, s); !ok || b != a {
			t.Errorf("P6.2: Print6(%x) = %q, which says %x", a, s, b)
		}
		if b, e := addr.Parse6(s); e != api.OK || b != a {
			t.Errorf("P6.5: Parse6(%q) = %x, %d; want %x", s, b, e, a)
		}
	}
}

// sayings tells texts that say the same address: with needless noughts, with each row of noughts left out.
func sayings(a [16]byte) []string {
	short, long := make([]string, 8), make([]string, 8)
	for i := range short {
		v := uint64(a[2*i])<<8 | uint64(a[2*i+1])
		short[i] = strconv.FormatUint(v, 16)
		long[i] = ("000" + short[i])[len(short[i])-1:]
	}
	out := []string{strings.Join(short, ":"), strings.Join(long, ":")}
	for at := range short {
		for end := at + 1; end <= 8 && short[end-1] == "0"; end++ {
			out = append(out, strings.Join(long[:at], ":")+"::"+strings.Join(short[end:], ":"))
		}
	}
	return out
}

func TestThereAndBack(t *testing.T) {
	r := rand.New(rand.NewSource(65))
	said := 0
	for range 5000 {
		var a [16]byte
		var b [4]byte
		for i := range a {
			a[i] = []byte{0, 0, 0, 1, 16, byte(r.Intn(256))}[r.Intn(6)]
			b[i%4] = byte(r.Intn(256))
		}
		if c, e := addr.Parse4(addr.Print4(b)); e != api.OK || c != b {
			t.Fatalf("P6.5: Parse4(Print4(%v)) = %v, %d", b, c, e)
		}
		text := addr.Print6(a)
		for _, s := range append(sayings(a), text) {
			c, e := addr.Parse6(s)
			if e != api.OK || c != a || addr.Print6(c) != text {
				t.Fatalf("P6.5: Parse6(%q) = %x, %d, and its text is %q; want %x, %q", s, c, e, addr.Print6(c), a, text)
			}
			said++
		}
	}
	if said < 20000 {
		t.Errorf("only %d texts among them", said)
	}
}
