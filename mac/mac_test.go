package mac

import (
	"fmt"
	"math/big"
	"math/rand/v2"
	"strings"
	"testing"

	"gemel/api"
)

// samples are addresses at all edges that the document names, those beside them, and many others, the same in each run.
func samples() []api.Mac {
	l := []api.Mac{
		{},
		{255, 255, 255, 255, 255, 255},
		{1}, {2}, {3}, {254}, {255},
		{0, 255, 255, 255, 255, 255},
		{0x7f, 255, 255, 255, 255, 255}, {0x80},
		{0x01, 0x80, 0xc1, 0xff, 0xff, 0xff},
		{0x01, 0x80, 0xc2, 0x00, 0x00, 0x00},
		{0x01, 0x80, 0xc2, 0x00, 0x00, 0x01},
		{0x01, 0x80, 0xc2, 0x00, 0x00, 0x0e},
		{0x01, 0x80, 0xc2, 0x00, 0x00, 0x0f},
		{0x01, 0x80, 0xc2, 0x00, 0x00, 0x10},
		{0x09, 0x0a, 0x90, 0xa0, 0x9f, 0xaf},
	}
	for i := range 6 {
		for _, v := range []byte{1, 9, 10, 15, 16, 127, 128, 159, 160, 255} {
			var one, other api.Mac
			one[i] = v
			other = api.Mac{0x12, 0x34, 0x56, 0x78, 0x9a, 0xbc}
			other[i] = v
			l = append(l, one, other)
		}
	}
	r := rand.New(rand.NewPCG(1, 2))
	for range 200 {
		var m api.Mac
		for i := range 6 {
			m[i] = byte(r.Uint32())
		}
		l = append(l, m)
	}
	return l
}

// P1.1: Text.
func TestText(t *testing.T) {
	for _, c := range []struct {
		m    api.Mac
		want string
	}{
		{api.Mac{1, 128, 194, 0, 0, 14}, "01:80:c2:00:00:0e"},
		{api.Mac{}, "00:00:00:00:00:00"},
		{api.Mac{255, 255, 255, 255, 255, 255}, "ff:ff:ff:ff:ff:ff"},
		{api.Mac{0x01, 0x23, 0x45, 0x67, 0x89, 0xab}, "01:23:45:67:89:ab"},
		{api.Mac{0xcd, 0xef, 0x0a, 0xa0, 0x09, 0x90}, "cd:ef:0a:a0:09:90"},
	} {
		if got := Text(c.m); got != c.want {
			t.Errorf("Text(%v) = %q, want %q", c.m, got, c.want)
		}
	}
	for _, m := range samples() {
		want := fmt.Sprintf("%02x:%02x:%02x:%02x:%02x:%02x", m[0], m[1], m[2], m[3], m[4], m[5])
		if got := Text(m); got != want || len(got) != 17 {
			t.Errorf("Text(%v) = %q, want %q", m, got, want)
		}
	}
}

// P1.1: each value of each byte, told and parsed.
func TestTextOfEachByte(t *testing.T) {
	for i := range 6 {
		for v := range 256 {
			m := api.Mac{0x5a, 0x5a, 0x5a, 0x5a, 0x5a, 0x5a}
			m[i] = byte(v)
			want := strings.Repeat("5a:", i) + fmt.Sprintf("%02x", v) + strings.Repeat(":5a", 5-i)
			if got := Text(m); got != want {
				t.Errorf("Text(%v) = %q, want %q", m, got, want)
			}
			if got, e := Parse(want); e != api.OK || got != m {
				t.Errorf("Parse(%q) = %v, %d, want %v", want, got, e, m)
			}
		}
	}
}

// refused holds Parse to R1, too: beside an error stands the zero address.
func refused(t *testing.T, s string) {
	t.Helper()
	if m, e := Parse(s); e != api.ErrForm || m != (api.Mac{}) {
		t.Errorf("Parse(%q) = %v, %d, want zero and ErrForm", s, m, e)
	}
}

// P1.1: texts that are no address.
func TestParseRefuses(t *testing.T) {
	for _, s := range []string{
		"",
		":",
		":::::",
		"0",
		"02000000000",
		"0200000000ff",
		"0200.0000.00ff",
		"02:00:00:00:00",
		"02:00:00:00:00:",
		"02:00:00:00:00:f",
		"2:00:00:00:00:ff",
		"02:00:00:00:00:ff0",
		"02:00:00:00:00:ff:",
		"02:00:00:00:00:ff ",
		" 02:00:00:00:00:ff",
		"02:00:00:00:00:ff\n",
		"02:00:00:00:00:ff:00",
		"02:00:00:00:00:ff:00:00",
		"02-00-00-00-00-ff",
		"02:00:00:00:00-ff",
		"02.00.00.00.00.ff",
		"02:00:00:00:00:FF",
		"02:00:00:00:00:fF",
		"02:00:00:00:00:Ff",
		"A2:00:00:00:00:ff",
		"02:0B:00:00:00:ff",
		"02:00:C0:00:00:ff",
		"02:00:00:0D:00:ff",
		"02:00:00:00:E0:ff",
		"0g:00:00:00:00:ff",
		"+2:00:00:00:00:ff",
		"-2:00:00:00:00:ff",
		" 2:00:00:00:00:ff",
		"0x:00:00:00:00:ff",
		"0_:00:00:00:00:ff",
		"0:200:00:00:00:ff",
		"02:00:00:00:00ff:",
		"0200000000000000f",
		"ab:cd:ef:ab:cd:ef ab:cd:ef:ab:cd:ef",
		"\x00\x00:00:00:00:00:ff",
		"\xff\xfe:00:00:00:00:ff",
		"é:00:00:00:00:ff",
		"é0:00:00:00:00:f",
		"0٢:00:00:00:00:f",
		"éééééééé0",
		"٠٢:٠٠:٠٠:٠٠:٠٠:٠٠",
		strings.Repeat("0", 17),
		strings.Repeat(":", 17),
		strings.Repeat("\x00", 17),
		strings.Repeat("02:", 100000),
	} {
		refused(t, s)
	}
}

// P1.1: each shorter text, and each longer one, of one that is an address.
func TestParseOfOtherLengths(t *testing.T) {
	const long = "01:80:c2:00:00:0e:01:80:c2:00:00:0e"
	for n := range len(long) + 1 {
		if n != 17 {
			refused(t, long[:n])
			refused(t, strings.Repeat("0", n))
		}
	}
	if m, e := Parse(long[:17]); e != api.OK || m != (api.Mac{1, 0x80, 0xc2, 0, 0, 0xe}) {
		t.Errorf("Parse(%q) = %v, %d", long[:17], m, e)
	}
}

// P1.1: each sign at each place: the figures, or the colon, and nothing else. That A to F stand for nothing is among it.
func TestParseOfEachSign(t *testing.T) {
	const figuresAsked = "0123456789abcdef"
	base := "3c:4d:5e:6f:70:81"
	for at := range len(base) {
		for v := range 256 {
			b := []byte(base)
			b[at] = byte(v)
			s := string(b)
			right := strings.IndexByte(figuresAsked, byte(v)) >= 0
			if at%3 == 2 {
				right = v == ':'
			}
			if !right {
				refused(t, s)
				continue
			}
			if m, e := Parse(s); e != api.OK || fmt.Sprintf("% x", m[:]) != strings.ReplaceAll(s, ":", " ") {
				t.Errorf("Parse(%q) = %v, %d", s, m, e)
			}
		}
	}
}

// P1.2: Number, held against another way of reckoning it.
func TestNumber(t *testing.T) {
	for _, c := range []struct {
		m    api.Mac
		want uint64
	}{
		{api.Mac{}, 0},
		{api.Mac{0, 0, 0, 0, 0, 1}, 1},
		{api.Mac{0, 0, 0, 0, 1, 0}, 1 << 8},
		{api.Mac{0, 0, 0, 1, 0, 0}, 1 << 16},
		{api.Mac{0, 0, 1, 0, 0, 0}, 1 << 24},
		{api.Mac{0, 1, 0, 0, 0, 0}, 1 << 32},
		{api.Mac{1, 0, 0, 0, 0, 0}, 1 << 40},
		{api.Mac{0x80, 0, 0, 0, 0, 0}, 1 << 47},
		{api.Mac{0x01, 0x80, 0xc2, 0, 0, 0x0e}, 0x0180C200000E},
		{api.Mac{0x12, 0x34, 0x56, 0x78, 0x9a, 0xbc}, 0x123456789ABC},
		{api.Mac{255, 255, 255, 255, 255, 255}, 1<<48 - 1},
	} {
		if got := Number(c.m); got != c.want {
			t.Errorf("Number(%v) = %#x, want %#x", c.m, got, c.want)
		}
		if got, e := Of(c.want); e != api.OK || got != c.m {
			t.Errorf("Of(%#x) = %v, %d, want %v", c.want, got, e, c.m)
		}
	}
	for _, m := range samples() {
		if want := new(big.Int).SetBytes(m[:]).Uint64(); Number(m) != want {
			t.Errorf("Number(%v) = %#x, want %#x", m, Number(m), want)
		}
	}
}

// P1.2: numbers that are no address, and the greatest one that is.
func TestOfAtItsBound(t *testing.T) {
	for _, n := range []uint64{1 << 48, 1<<48 + 1, 1<<49 - 1, 1 << 49, 1 << 56, 1 << 63, 1<<63 + 7, 1<<64 - 1} {
		if m, e := Of(n); e != api.ErrArg || m != (api.Mac{}) {
			t.Errorf("Of(%#x) = %v, %d, want zero and ErrArg", n, m, e)
		}
	}
	for at := 48; at < 64; at++ {
		if m, e := Of(1<<at | 0x0180C200000E); e != api.ErrArg || m != (api.Mac{}) {
			t.Errorf("Of with the bit %d = %v, %d, want zero and ErrArg", at, m, e)
		}
	}
	if m, e := Of(1<<48 - 1); e != api.OK || m != (api.Mac{255, 255, 255, 255, 255, 255}) {
		t.Errorf("Of(2^48 - 1) = %v, %d", m, e)
	}
	if m, e := Of(1<<48 - 2); e != api.OK || m != (api.Mac{255, 255, 255, 255, 255, 254}) {
		t.Errorf("Of(2^48 - 2) = %v, %d", m, e)
	}
	if m, e := Of(0); e != api.OK || m != (api.Mac{}) {
		t.Errorf("Of(0) = %v, %d", m, e)
	}
}

// P1.3: Group hangs on the lowest bit of the first byte, and on no other one.
func TestGroup(t *testing.T) {
	for v := range 256 {
		if got := Group(api.Mac{byte(v)}); got != (v%2 == 1) {
			t.Errorf("Group of the first byte %d = %v", v, got)
		}
		if got := Group(api.Mac{byte(v), 255, 255, 255, 255, 255}); got != (v%2 == 1) {
			t.Errorf("Group of the first byte %d, all others 255 = %v", v, got)
		}
	}
	if Group(api.Mac{0, 1, 1, 1, 1, 1}) || !Group(api.Mac{255, 255, 255, 255, 255, 255}) {
		t.Error("Group looks at another byte")
	}
}

// P1.3: the sixteen, those beside them, and those that differ in one bit.
func TestReserved(t *testing.T) {
	const first, last = 0x0180C2000000, 0x0180C200000F
	for n := uint64(first - 300); n <= last+300; n++ {
		m, e := Of(n)
		if e != api.OK {
			t.Fatalf("Of(%#x): %d", n, e)
		}
		if got := Reserved(m); got != (first <= n && n <= last) {
			t.Errorf("Reserved(%s) = %v", Text(m), got)
		}
	}
	for low := range uint64(16) {
		for bit := range 48 {
			n := (first + low) ^ 1<<bit
			m, _ := Of(n)
			if got := Reserved(m); got != (bit < 4) {
				t.Errorf("Reserved(%s) = %v", Text(m), got)
			}
		}
	}
	for _, m := range []api.Mac{{}, {255, 255, 255, 255, 255, 255}, {1, 0x80, 0xc2}, {1, 0x80, 0xc2, 0, 0, 0x0f}} {
		if got := Reserved(m); got != (m[0] == 1) {
			t.Errorf("Reserved(%s) = %v", Text(m), got)
		}
	}
}

// P1.3: Compare.
func TestCompare(t *testing.T) {
	for _, c := range []struct {
		a, b api.Mac
		want int
	}{
		{api.Mac{}, api.Mac{}, 0},
		{api.Mac{1}, api.Mac{0, 255, 255, 255, 255, 255}, 1},
		{api.Mac{0, 255, 255, 255, 255, 255}, api.Mac{1}, -1},
		{api.Mac{}, api.Mac{0, 0, 0, 0, 0, 1}, -1},
		{api.Mac{0, 0, 0, 0, 0, 1}, api.Mac{}, 1},
		{api.Mac{0x80}, api.Mac{0x7f, 255}, 1},
		{api.Mac{255, 255, 255, 255, 255, 255}, api.Mac{}, 1},
		{api.Mac{255, 255, 255, 255, 255, 254}, api.Mac{255, 255, 255, 255, 255, 255}, -1},
		{api.Mac{1, 2, 3, 4, 5, 6}, api.Mac{1, 2, 3, 4, 5, 6}, 0},
		{api.Mac{1, 2, 3, 4, 5, 6}, api.Mac{1, 2, 4, 3, 5, 6}, -1},
	} {
		if got := Compare(c.a, c.b); got != c.want {
			t.Errorf("Compare(%s, %s) = %d, want %d", Text(c.a), Text(c.b), got, c.want)
		}
	}
}

// P1.4 and P2: each is the other's inverse.
func TestInverses(t *testing.T) {
	for _, m := range samples() {
		if back, e := Parse(Text(m)); e != api.OK || back != m {
			t.Errorf("Parse(Text(%v)) = %v, %d", m, back, e)
		}
		if back, e := Of(Number(m)); e != api.OK || back != m {
			t.Errorf("Of(Number(%v)) = %v, %d", m, back, e)
		}
		s := fmt.Sprintf("%012x", new(big.Int).SetBytes(m[:]))
		s = s[:2] + ":" + s[2:4] + ":" + s[4:6] + ":" + s[6:8] + ":" + s[8:10] + ":" + s[10:]
		if x, e := Parse(s); e != api.OK || Text(x) != s {
			t.Errorf("Text(Parse(%q)) = %q, %d", s, Text(x), e)
		}
	}
	r := rand.New(rand.NewPCG(3, 4))
	for i := range 2000 {
		n := r.Uint64() >> (16 + i%48)
		if m, e := Of(n); e != api.OK || Number(m) != n {
			t.Errorf("Number(Of(%#x)) = %#x, %d", n, Number(m), e)
		}
	}
}

// P1.4: Compare is the order of the numbers and of the texts, and turns round where its arguments do.
func TestCompareIsTheOrderOfTexts(t *testing.T) {
	l := samples()
	for _, a := range l {
		for _, b := range l {
			got := Compare(a, b)
			if want := strings.Compare(Text(a), Text(b)); got != want {
				t.Errorf("Compare(%s, %s) = %d, the texts' order is %d", Text(a), Text(b), got, want)
			}
			numbers := new(big.Int).SetBytes(a[:]).Cmp(new(big.Int).SetBytes(b[:]))
			if got != numbers {
				t.Errorf("Compare(%s, %s) = %d, the numbers' order is %d", Text(a), Text(b), got, numbers)
			}
			if back := Compare(b, a); back != -got {
				t.Errorf("Compare(%s, %s) = %d, turned round %d", Text(a), Text(b), got, back)
			}
			if (got == 0) != (a == b) {
				t.Errorf("Compare(%s, %s) = %d", Text(a), Text(b), got)
			}
		}
	}
}

// P1.4: where a is not behind b, and b not behind c, a is not behind c.
func TestCompareGoesThrough(t *testing.T) {
	l := samples()[:80]
	for _, a := range l {
		for _, b := range l {
			if Compare(a, b) > 0 {
				continue
			}
			for _, c := range l {
				if Compare(b, c) <= 0 && Compare(a, c) > 0 {
					t.Fatalf("%s, %s, %s are in no order", Text(a), Text(b), Text(c))
				}
			}
		}
	}
}

// P1 and P2: no text makes Parse panic, and what it takes is told as it stood there.
func FuzzParse(f *testing.F) {
	for _, s := range []string{"", "01:80:c2:00:00:0e", "01:80:C2:00:00:0E", "\xff", "02:00:00:00:00:ff0"} {
		f.Add(s)
	}
	f.Fuzz(func(t *testing.T, s string) {
		m, e := Parse(s)
		switch {
		case e == api.OK && Text(m) != s:
			t.Errorf("Text(Parse(%q)) = %q", s, Text(m))
		case e != api.OK && (e != api.ErrForm || m != (api.Mac{})):
			t.Errorf("Parse(%q) = %v, %d", s, m, e)
		}
	})
}

// P1 and R4: all calls, at arguments of chance that are the same in each run, answer without a panic, and the same a second time.
func TestNoCallPanics(t *testing.T) {
	r := rand.New(rand.NewPCG(5, 6))
	const signsAsked = "0123456789abcdef:::ABCDEF-g \x00\xff"
	for range 20000 {
		b := make([]byte, r.IntN(36))
		for i := range b {
			b[i] = signsAsked[r.IntN(len(signsAsked))]
		}
		m, e := Parse(string(b))
		again, eAgain := Parse(string(b))
		if m != again || e != eAgain || e == api.OK && Text(m) != string(b) {
			t.Errorf("Parse(%q) = %v, %d, then %v, %d", b, m, e, again, eAgain)
		}
		n := r.Uint64() >> r.IntN(64)
		m, e = Of(n)
		if (e == api.OK) != (n < 1<<48) || e == api.OK && Number(m) != n {
			t.Errorf("Of(%#x) = %v, %d", n, m, e)
		}
		Group(m)
		Reserved(m)
	}
}
