package ether

import (
	"bytes"
	"encoding/binary"
	"math"
	"math/rand/v2"
	"testing"

	"gemel/api"
)

var (
	to   = api.Mac{0x01, 0x80, 0xc2, 0x00, 0x00, 0x0e}
	from = api.Mac{0x02, 0x13, 0x24, 0x35, 0x46, 0x57}
)

// plain is a frame that may be, without a tag; tagged is one with a tag.
func plain() api.Frame {
	return api.Frame{Dst: to, Src: from, Type: 0x800, Body: []byte{5, 6, 7}}
}

func tagged() api.Frame {
	return api.Frame{Dst: to, Src: from, Tagged: true, Vlan: 0x123, Prio: 5, Type: 0x86dd, Body: []byte{9, 8}}
}

// same holds frames against each other; a nil Body and an empty one are the same (R2).
func same(a, b api.Frame) bool {
	return a.Dst == b.Dst && a.Src == b.Src && a.Tagged == b.Tagged && a.Vlan == b.Vlan &&
		a.Prio == b.Prio && a.Type == b.Type && bytes.Equal(a.Body, b.Body)
}

// zero tells whether nothing stands in a frame, as it is beside an error (R1).
func zero(f api.Frame) bool { return same(f, api.Frame{}) }

// mayBe is the document's word told in another way than the program's.
func mayBe(f api.Frame) bool {
	switch {
	case f.Type < 1536, f.Type > 65535, f.Type == 33024, len(f.Body) > 1500:
		return false
	case f.Tagged:
		return f.Vlan > -1 && f.Vlan < 4095 && f.Prio > -1 && f.Prio < 8
	}
	return f.Vlan == 0 && f.Prio == 0
}

// bytesOf are a frame's, laid down place by place.
func bytesOf(f api.Frame) []byte {
	head := make([]byte, 14)
	copy(head, f.Dst[:])
	copy(head[6:], f.Src[:])
	if f.Tagged {
		head = append(head, 0, 0, 0, 0)
		binary.BigEndian.PutUint16(head[12:], 0x8100)
		binary.BigEndian.PutUint16(head[14:], uint16(f.Prio)<<13|uint16(f.Vlan))
	}
	binary.BigEndian.PutUint16(head[len(head)-2:], uint16(f.Type))
	return append(head, f.Body...)
}

// held holds Right, Encode and Decode to the document at one frame.
func held(t *testing.T, f api.Frame, right bool) {
	t.Helper()
	if got := Right(f); got != right {
		t.Errorf("Right(%+v) = %v", f, got)
	}
	b, e := Encode(f)
	if !right {
		if e != api.ErrArg || len(b) != 0 {
			t.Errorf("Encode(%+v) = % x, %d, want none and ErrArg", f, b, e)
		}
		return
	}
	if want := bytesOf(f); e != api.OK || !bytes.Equal(b, want) {
		t.Errorf("Encode(%+v) = % x, %d, want % x", f, b, e, want)
	}
	if back, e := Decode(b); e != api.OK || !same(back, f) {
		t.Errorf("Decode(% x) = %+v, %d, want %+v", b, back, e, f)
	}
}

// refused holds Decode to ErrForm, and to R1 beside it.
func refused(t *testing.T, b []byte) {
	t.Helper()
	if f, e := Decode(b); e != api.ErrForm || !zero(f) {
		t.Errorf("Decode(% x) = %+v, %d, want zero and ErrForm", b, f, e)
	}
}

// P2.1: bytes that are written out here, both ways.
func TestBytes(t *testing.T) {
	for _, c := range []struct {
		f api.Frame
		b []byte
	}{
		{
			api.Frame{Dst: api.Mac{1}, Src: api.Mac{2}, Type: 0x800, Body: []byte{5}},
			[]byte{1, 0, 0, 0, 0, 0, 2, 0, 0, 0, 0, 0, 8, 0, 5},
		},
		{
			api.Frame{Dst: to, Src: from, Type: 0x88cc},
			[]byte{1, 0x80, 0xc2, 0, 0, 0x0e, 2, 0x13, 0x24, 0x35, 0x46, 0x57, 0x88, 0xcc},
		},
		{
			api.Frame{Dst: to, Src: from, Tagged: true, Vlan: 10, Prio: 7, Type: 0x806, Body: []byte{1, 2}},
			[]byte{1, 0x80, 0xc2, 0, 0, 0x0e, 2, 0x13, 0x24, 0x35, 0x46, 0x57, 0x81, 0, 0xe0, 10, 8, 6, 1, 2},
		},
		{
			api.Frame{Tagged: true, Type: 0x600},
			[]byte{0, 0, 0, 0, 0, 0, 0, 0, 0, 0, 0, 0, 0x81, 0, 0, 0, 6, 0},
		},
		{
			api.Frame{Tagged: true, Vlan: 4094, Prio: 7, Type: 0xffff},
			[]byte{0, 0, 0, 0, 0, 0, 0, 0, 0, 0, 0, 0, 0x81, 0, 0xef, 0xfe, 0xff, 0xff},
		},
		{
			api.Frame{Tagged: true, Vlan: 0x3a5, Prio: 2, Type: 0x1234},
			[]byte{0, 0, 0, 0, 0, 0, 0, 0, 0, 0, 0, 0, 0x81, 0, 0x43, 0xa5, 0x12, 0x34},
		},
	} {
		if b, e := Encode(c.f); e != api.OK || !bytes.Equal(b, c.b) {
			t.Errorf("Encode(%+v) = % x, %d, want % x", c.f, b, e, c.b)
		}
		if f, e := Decode(c.b); e != api.OK || !same(f, c.f) {
			t.Errorf("Decode(% x) = %+v, %d, want %+v", c.b, f, e, c.f)
		}
	}
}

// P2.1: with a tag there are 18 bytes ahead of the Body, without one 14.
func TestLengths(t *testing.T) {
	for _, n := range []int{0, 1, 2, 45, 46, 255, 256, 1499, 1500} {
		f := plain()
		f.Body = bytes.Repeat([]byte{0xa5}, n)
		if b, e := Encode(f); e != api.OK || len(b) != 14+n {
			t.Errorf("a Body of %d: %d bytes, %d", n, len(b), e)
		}
		f = tagged()
		f.Body = bytes.Repeat([]byte{0xa5}, n)
		if b, e := Encode(f); e != api.OK || len(b) != 18+n {
			t.Errorf("with a tag, a Body of %d: %d bytes, %d", n, len(b), e)
		}
	}
}

// P2.1: each Type of two bytes, with a tag and without, those beside them, and far ones.
func TestTypes(t *testing.T) {
	for _, f := range []api.Frame{plain(), tagged()} {
		for n := -2; n <= 0x10002; n++ {
			f.Type = n
			held(t, f, n >= 0x600 && n <= 0xffff && n != 0x8100)
		}
		for _, n := range []int{math.MinInt, math.MinInt32, -0x8100, -0x10000 + 0x800, 0x18100, 0x10800, 0x800 << 16, math.MaxInt32, math.MaxInt} {
			f.Type = n
			held(t, f, false)
		}
	}
}

// P2.1: bytes whose Type may not be; 81 00 is a tag, and there is no second one.
func TestDecodeOfTypes(t *testing.T) {
	for _, f := range []api.Frame{plain(), tagged()} {
		for n := range 0x10000 {
			f.Type = n
			b := bytesOf(f)
			switch {
			case !f.Tagged && n == 0x8100:
				refused(t, b) // a tag, and too few bytes behind it
			case n < 0x600, n == 0x8100:
				refused(t, b)
			default:
				if got, e := Decode(b); e != api.OK || !same(got, f) {
					t.Errorf("Decode(% x) = %+v, %d, want %+v", b, got, e, f)
				}
			}
		}
	}
	head := append(append([]byte{}, to[:]...), from[:]...)
	refused(t, append(head, 0x81, 0, 0, 1, 0x81, 0, 0, 2, 8, 0, 5))
	refused(t, append(head, 0x81, 0, 0, 1, 5, 0xff))
	if f, e := Decode(append(head, 0x81, 0, 0, 1, 6, 0)); e != api.OK || f.Type != 0x600 || f.Vlan != 1 {
		t.Errorf("%+v, %d", f, e)
	}
}

// P2.1: each two bytes of a tag: Prio is the three highest bits, the next one is 0, Vlan the others, but 4095.
func TestTags(t *testing.T) {
	f := tagged()
	for n := range 0x10000 {
		b := bytesOf(f)
		b[14], b[15] = byte(n>>8), byte(n)
		want := f
		want.Prio, want.Vlan = n/8192, n%8192
		if want.Vlan > 4094 {
			refused(t, b)
			continue
		}
		if got, e := Decode(b); e != api.OK || !same(got, want) {
			t.Errorf("Decode(% x) = %+v, %d, want %+v", b, got, e, want)
		}
		held(t, want, true)
	}
}

// P2.1: Vlan and Prio at their edges and far from them, with a tag and without.
func TestVlanAndPrio(t *testing.T) {
	edges := []int{math.MinInt, math.MinInt32, -8192, -4095, -1, 0, 1, 6, 7, 8, 9, 4093, 4094, 4095, 4096, 8191, 8192, 8193, 65535, 65536, 65537, math.MaxInt32, math.MaxInt}
	for _, vlan := range edges {
		for _, prio := range edges {
			f := tagged()
			f.Vlan, f.Prio = vlan, prio
			held(t, f, vlan >= 0 && vlan <= 4094 && prio >= 0 && prio <= 7)
			f = plain()
			f.Vlan, f.Prio = vlan, prio
			held(t, f, vlan == 0 && prio == 0)
		}
	}
}

// P2.1: a Body of 1500 bytes may be, and of one more may not, encoded and decoded, with a tag and without.
func TestBodies(t *testing.T) {
	for _, f := range []api.Frame{plain(), tagged()} {
		for _, n := range []int{0, 1, 1498, 1499, 1500, 1501, 1502, 1504, 1518, 3000, 65536, 1 << 20} {
			f.Body = bytes.Repeat([]byte{1, 2, 3, 4, 5, 6, 7}, n/7+1)[:n]
			held(t, f, n <= 1500)
			if n > 1500 {
				refused(t, bytesOf(f))
			}
		}
		f.Body = nil
		held(t, f, true)
		f.Body = []byte{}
		held(t, f, true)
	}
}

// P2.1: bytes that are too few, with a tag and without, and the fewest that are enough.
func TestTooFew(t *testing.T) {
	refused(t, nil)
	refused(t, []byte{})
	for _, f := range []api.Frame{plain(), tagged()} {
		f.Body = nil
		b := bytesOf(f)
		for n := range len(b) {
			refused(t, b[:n])
			refused(t, bytes.Clone(b[:n]))
		}
		if got, e := Decode(b); e != api.OK || !same(got, f) {
			t.Errorf("Decode(% x) = %+v, %d, want %+v", b, got, e, f)
		}
	}
	for n := range 18 {
		refused(t, make([]byte, n))
		refused(t, bytes.Repeat([]byte{0x81, 0}, 9)[:n])
	}
}

// P2.1: where several things are wrong, and where but one is.
func TestRightOfAllTogether(t *testing.T) {
	for _, typ := range []int{0x5ff, 0x600, 0x80ff, 0x8100, 0x8101, 0xffff, 0x10000} {
		for _, vlan := range []int{-1, 0, 1, 4094, 4095} {
			for _, prio := range []int{-1, 0, 7, 8} {
				for _, n := range []int{0, 1500, 1501} {
					for _, is := range []bool{false, true} {
						f := api.Frame{Dst: to, Src: from, Tagged: is, Vlan: vlan, Prio: prio, Type: typ, Body: make([]byte, n)}
						held(t, f, mayBe(f))
					}
				}
			}
		}
	}
	held(t, api.Frame{}, false)
}

// P2.2: Tag, of frames without a tag and with one.
func TestTag(t *testing.T) {
	edges := []int{math.MinInt, -8192, -1, 0, 1, 7, 8, 4093, 4094, 4095, 4096, 8192, 65536, math.MaxInt}
	for _, f := range []api.Frame{plain(), tagged()} {
		for _, vlan := range edges {
			for _, prio := range edges {
				got, e := Tag(f, vlan, prio)
				if vlan < 0 || vlan > 4094 || prio < 0 || prio > 7 {
					if e != api.ErrArg || !zero(got) {
						t.Errorf("Tag(%+v, %d, %d) = %+v, %d, want zero and ErrArg", f, vlan, prio, got, e)
					}
					continue
				}
				want := f
				want.Tagged, want.Vlan, want.Prio = true, vlan, prio
				if e != api.OK || !same(got, want) {
					t.Errorf("Tag(%+v, %d, %d) = %+v, %d, want %+v", f, vlan, prio, got, e, want)
				}
			}
		}
	}
}

// P2.2: what hangs on the frame is that which Tag would answer, not that which is handed in.
func TestTagOfFramesThatMayNotBe(t *testing.T) {
	for _, typ := range []int{-1, 0, 0x5ff, 0x8100, 0x10000} {
		f := plain()
		f.Type = typ
		if got, e := Tag(f, 1, 1); e != api.ErrArg || !zero(got) {
			t.Errorf("Tag of the Type %#x = %+v, %d, want zero and ErrArg", typ, got, e)
		}
	}
	f := plain()
	f.Body = make([]byte, 1501)
	if got, e := Tag(f, 1, 1); e != api.ErrArg || !zero(got) {
		t.Errorf("Tag of 1501 bytes = %+v, %d, want zero and ErrArg", got, e)
	}
	f.Body = make([]byte, 1500)
	if got, e := Tag(f, 1, 1); e != api.OK || len(got.Body) != 1500 {
		t.Errorf("Tag of 1500 bytes: %d bytes, %d", len(got.Body), e)
	}
	f = tagged()
	f.Vlan, f.Prio = 4095, 8
	if got, e := Tag(f, 3, 4); e != api.OK || got.Vlan != 3 || got.Prio != 4 || !Right(got) {
		t.Errorf("Tag in place of one that may not be = %+v, %d", got, e)
	}
	f = plain()
	f.Vlan, f.Prio = 6, -6
	if got, e := Tag(f, 3, 4); e != api.OK || got.Vlan != 3 || got.Prio != 4 || !Right(got) {
		t.Errorf("Tag of one that may not be without = %+v, %d", got, e)
	}
}

// P2.2: Untag, of each frame, also of one that may not be.
func TestUntag(t *testing.T) {
	bad := api.Frame{Dst: to, Src: from, Tagged: true, Vlan: -4, Prio: 99, Type: 0x8100, Body: make([]byte, 1501)}
	half := plain()
	half.Vlan, half.Prio = 12, 3
	for _, f := range []api.Frame{plain(), tagged(), half, bad, {}} {
		want := f
		want.Tagged, want.Vlan, want.Prio = false, 0, 0
		if got := Untag(f); !same(got, want) {
			t.Errorf("Untag(%+v) = %+v, want %+v", f, got, want)
		}
	}
}

// chance makes frames, near the edges and off them, that are the same in each run.
func chance(r *rand.Rand) api.Frame {
	near := func(edges ...int) int { return edges[r.IntN(len(edges))] + r.IntN(3) - 1 }
	f := api.Frame{Type: near(0x600, 0x800, 0x8100, 0x86dd, 0xffff), Body: make([]byte, near(1, 7, 64, 1499, 1500))}
	for i := range 6 {
		f.Dst[i], f.Src[i] = byte(r.Uint32()), byte(r.Uint32())
	}
	for i := range f.Body {
		f.Body[i] = byte(r.Uint32())
	}
	if r.IntN(2) == 0 {
		f.Tagged, f.Vlan, f.Prio = true, near(0, 1, 255, 256, 2048, 4093, 4094), near(0, 3, 6, 7)
	}
	if r.IntN(9) == 0 {
		f.Vlan = r.IntN(3)
	}
	return f
}

// P2.3 and P2: what was encoded is decoded as it was.
func TestInverseOfEncode(t *testing.T) {
	r := rand.New(rand.NewPCG(1, 2))
	right := 0
	for range 20000 {
		f := chance(r)
		held(t, f, mayBe(f))
		if mayBe(f) {
			right++
		}
	}
	if right < 5000 || right > 15000 {
		t.Errorf("%d of 20000 frames may be: too few of one kind", right)
	}
}

// P2.3 and P2: what was decoded is encoded as it stood there.
func TestInverseOfDecode(t *testing.T) {
	r := rand.New(rand.NewPCG(3, 4))
	taken := 0
	for range 50000 {
		b := make([]byte, r.IntN(40))
		for i := range b {
			b[i] = byte(r.Uint32())
		}
		if len(b) > 13 && r.IntN(2) == 0 {
			b[12], b[13] = 0x81, 0
		}
		f, e := Decode(b)
		if e != api.OK {
			if e != api.ErrForm || !zero(f) {
				t.Errorf("Decode(% x) = %+v, %d", b, f, e)
			}
			continue
		}
		taken++
		if back, e := Encode(f); e != api.OK || !bytes.Equal(back, b) || !Right(f) {
			t.Errorf("Encode(Decode(% x)) = % x, %d", b, back, e)
		}
	}
	if taken < 5000 {
		t.Errorf("but %d were frames", taken)
	}
}

// P2.3: a tag that is put to a frame, and taken off, leaves it as it was.
func TestTagAndOff(t *testing.T) {
	r := rand.New(rand.NewPCG(5, 6))
	for range 5000 {
		f := chance(r)
		if !mayBe(f) {
			continue
		}
		g, e := Tag(f, r.IntN(4095), r.IntN(8))
		if e != api.OK || !Right(g) {
			t.Errorf("Tag(%+v) = %+v, %d", f, g, e)
		}
		off := Untag(g)
		if !f.Tagged && !same(off, f) || !same(off, Untag(f)) || !Right(off) {
			t.Errorf("Untag(Tag(%+v)) = %+v", f, off)
		}
		if f.Tagged {
			if back, e := Tag(off, f.Vlan, f.Prio); e != api.OK || !same(back, f) {
				t.Errorf("Tag(Untag(%+v)) = %+v, %d", f, back, e)
			}
		}
	}
}

// R3: what is handed in stays as it is, and is shared with nothing.
func TestSharesNothing(t *testing.T) {
	for _, f := range []api.Frame{plain(), tagged()} {
		room := make([]byte, 3, 64)
		copy(room, []byte{5, 6, 7})
		f.Body = room
		was := f
		was.Body = bytes.Clone(f.Body)
		b, _ := Encode(f)
		g, _ := Tag(f, 1, 1)
		u := Untag(f)
		for _, l := range [][]byte{b, g.Body, u.Body} {
			for i := range l {
				l[i] = ^l[i]
			}
			_ = append(l, 0xee, 0xee, 0xee)
		}
		if !same(f, was) || !bytes.Equal(room[:64][3:], make([]byte, 61)) {
			t.Errorf("%+v, was %+v", f, was)
		}

		b, _ = Encode(f)
		kept := bytes.Clone(b)
		d, _ := Decode(b)
		for i := range d.Body {
			d.Body[i] = ^d.Body[i]
		}
		if !bytes.Equal(b, kept) {
			t.Errorf("Decode's Body is that of the bytes: % x, was % x", b, kept)
		}
		d, _ = Decode(b)
		clear(b)
		if !same(d, was) {
			t.Errorf("Decode's frame changes with the bytes: %+v, was %+v", d, was)
		}
	}
}

// P1 and P2.3: no bytes make Decode panic, and what it takes is encoded as it stood there.
func FuzzDecode(f *testing.F) {
	f.Add([]byte{})
	f.Add(bytesOf(plain()))
	f.Add(bytesOf(tagged()))
	f.Add(bytesOf(tagged())[:17])
	f.Add(bytes.Repeat([]byte{0x81, 0}, 12))
	f.Fuzz(func(t *testing.T, b []byte) {
		got, e := Decode(b)
		switch {
		case e == api.OK:
			if back, e := Encode(got); e != api.OK || !bytes.Equal(back, b) {
				t.Errorf("Encode(Decode(% x)) = % x, %d", b, back, e)
			}
		case e != api.ErrForm || !zero(got):
			t.Errorf("Decode(% x) = %+v, %d", b, got, e)
		}
	})
}
