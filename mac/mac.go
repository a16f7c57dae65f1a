// Package mac is layer 1: see shared/doc/01-mac.md.
package mac

import "gemel/api"

// figures are those of Text, each at the place of its value.
const figures = "0123456789abcdef"

// signs is how many a text has: two figures of each byte, and five colons.
const signs = 17

// Text is an address as text, Parse one of a text.
func Text(m api.Mac) string {
	text := make([]byte, 0, signs)
	for i := range len(m) {
		if i > 0 {
			text = append(text, ':')
		}
		text = append(text, figures[m[i]>>4], figures[m[i]&15])
	}
	return string(text)
}

func Parse(s string) (api.Mac, api.Errno) {
	if len(s) != signs {
		return api.Mac{}, api.ErrForm
	}
	var m api.Mac
	for i := range len(m) {
		if i > 0 && s[3*i-1] != ':' {
			return api.Mac{}, api.ErrForm
		}
		high, highOK := value(s[3*i])
		low, lowOK := value(s[3*i+1])
		if !highOK || !lowOK {
			return api.Mac{}, api.ErrForm
		}
		m[i] = high<<4 | low
	}
	return m, api.OK
}

// value knows no figures A to F: an address has one text alone.
func value(figure byte) (byte, bool) {
	switch {
	case '0' <= figure && figure <= '9':
		return figure - '0', true
	case 'a' <= figure && figure <= 'f':
		return figure - 'a' + 10, true
	}
	return 0, false
}

// Number is an address as a number, Of one of a number.
func Number(m api.Mac) uint64 {
	var n uint64
	for i := range len(m) {
		n = n<<8 | uint64(m[i])
	}
	return n
}

func Of(n uint64) (api.Mac, api.Errno) {
	if n >= 1<<48 {
		return api.Mac{}, api.ErrArg
	}
	var m api.Mac
	for i := range len(m) {
		m[len(m)-1-i] = byte(n)
		n >>= 8
	}
	return m, api.OK
}

// Group tells whether an address is of many, Reserved whether bridges keep it for themselves.
func Group(m api.Mac) bool { return m[0]&1 == 1 }

func Reserved(m api.Mac) bool {
	// The sixteen differ in these four bits alone; an array handed in is a copy, so the caller's stays.
	m[5] &= 0xf0
	return m == api.Mac{0x01, 0x80, 0xc2, 0x00, 0x00, 0x00}
}

// Compare tells which of two is less.
func Compare(a, b api.Mac) int {
	switch {
	case a == b:
		return 0
	case Number(a) < Number(b):
		return -1
	}
	return 1
}
