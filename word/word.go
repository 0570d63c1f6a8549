// Package word: numbers in bytes, the high byte first; joined bytes; sums that stop at the greatest; bytes as text. See DOC.md, chapter 1.
package word

import "riddle/api"

const digits = "0123456789abcdef"

// Get tells the number that the size bytes of b from at on say, and whether there is one.
func Get(b []byte, at int, size int) (uint32, bool) {
	if !holds(b, at, size) {
		return 0, false
	}
	var v uint32
	for i := range size {
		v = v<<8 | uint32(b[at+i])
	}
	return v, true
}

// Put tells a copy of b in which the size bytes from at on say v, and whether b has these bytes.
func Put(b []byte, at int, size int, v uint32) ([]byte, bool) {
	if !holds(b, at, size) {
		return nil, false
	}
	out := Join(b)
	for i := range size {
		out[at+size-1-i] = byte(v)
		v >>= 8
	}
	return out, true
}

// holds compares at with a difference: at + size would wrap at the greatest places.
func holds(b []byte, at int, size int) bool {
	if size != 1 && size != 2 && size != 4 {
		return false
	}
	return at >= 0 && at <= len(b)-size
}

// Join tells all parts, one behind the other, in memory of their own.
func Join(parts ...[]byte) []byte {
	sizes := make([]uint32, len(parts))
	for i, part := range parts {
		sizes[i] = uint32(len(part))
	}
	// Room for all at once: grown part by part, many small ones would be copied again and again.
	out := make([]byte, 0, int(Sum(sizes...)))
	for _, part := range parts {
		out = append(out, part...)
	}
	return out
}

// Sum adds up counters; it stays at api.MaxCount where they come to more.
func Sum(xs ...uint32) uint32 {
	var total uint32
	for _, x := range xs {
		if x > api.MaxCount-total {
			return api.MaxCount
		}
		total += x
	}
	return total
}

// Hex tells b as text, two digits a byte.
func Hex(b []byte) string {
	out := make([]byte, 0, 2*len(b))
	for _, c := range b {
		out = append(out, digits[c>>4], digits[c&15])
	}
	return string(out)
}

// Unhex tells the bytes of a text that Hex could have told, and whether it is one.
func Unhex(s string) ([]byte, bool) {
	if len(s)%2 != 0 {
		return nil, false
	}
	out := make([]byte, 0, len(s)/2)
	for i := 0; i < len(s); i += 2 {
		high, okHigh := digit(s[i])
		low, okLow := digit(s[i+1])
		if !okHigh || !okLow {
			return nil, false
		}
		out = append(out, high<<4|low)
	}
	return out, true
}

// digit refuses A to F, so that each list of bytes has one text.
func digit(c byte) (byte, bool) {
	switch {
	case c >= '0' && c <= '9':
		return c - '0', true
	case c >= 'a' && c <= 'f':
		return c - 'a' + 10, true
	}
	return 0, false
}
