package lacpdu

import (
	"bytes"
	"encoding/binary"
	"math"
	"math/rand/v2"
	"testing"

	"gemel/api"
)

// sample is one that may be, no two of whose bytes that tell something are the same, and none of them 0.
func sample() api.Lacp {
	return api.Lacp{
		Actor: api.Info{
			SysPrio: 0x8101, Sys: api.Mac{0x82, 0x83, 0x84, 0x85, 0x86, 0x87},
			Key: 0x8802, PortPrio: 0x8903, Port: 0x8a04, State: 0x8b,
		},
		Partner: api.Info{
			SysPrio: 0x9105, Sys: api.Mac{0x92, 0x93, 0x94, 0x95, 0x96, 0x97},
			Key: 0x9806, PortPrio: 0x9907, Port: 0x9a08, State: 0x9b,
		},
		Delay: 0xa109,
	}
}

// sampleBytes are those of sample, as chapter 4 has them.
func sampleBytes() []byte {
	b := []byte{
		1, 1,
		1, 20,
		0x81, 0x01, 0x82, 0x83, 0x84, 0x85, 0x86, 0x87, 0x88, 0x02, 0x89, 0x03, 0x8a, 0x04, 0x8b, 0, 0, 0,
		2, 20,
		0x91, 0x05, 0x92, 0x93, 0x94, 0x95, 0x96, 0x97, 0x98, 0x06, 0x99, 0x07, 0x9a, 0x08, 0x9b, 0, 0, 0,
		3, 16,
		0xa1, 0x09, 0, 0, 0, 0, 0, 0, 0, 0, 0, 0, 0, 0,
		0, 0,
	}
	return append(b, make([]byte, 50)...)
}

// field is a number of one: its place among the bytes, and its most.
type field struct {
	name string
	of   func(*api.Lacp) *int
	at   int
	most int
}

func fields() []field {
	l := infoFields("Actor", 4, func(l *api.Lacp) *api.Info { return &l.Actor })
	l = append(l, infoFields("Partner", 24, func(l *api.Lacp) *api.Info { return &l.Partner })...)
	return append(l, field{"Delay", func(l *api.Lacp) *int { return &l.Delay }, 44, 65535})
}

func infoFields(end string, at int, of func(*api.Lacp) *api.Info) []field {
	return []field{
		{end + ".SysPrio", func(l *api.Lacp) *int { return &of(l).SysPrio }, at, 65535},
		{end + ".Key", func(l *api.Lacp) *int { return &of(l).Key }, at + 8, 65535},
		{end + ".PortPrio", func(l *api.Lacp) *int { return &of(l).PortPrio }, at + 10, 65535},
		{end + ".Port", func(l *api.Lacp) *int { return &of(l).Port }, at + 12, 65535},
		{end + ".State", func(l *api.Lacp) *int { return &of(l).State }, at + 14, 255},
	}
}

// mayBe is the document's word told in another way than the program's.
func mayBe(l api.Lacp) bool {
	for _, f := range fields() {
		if n := *f.of(&l); n < 0 || n > f.most {
			return false
		}
	}
	return true
}

// bytesOf are those of one that may be, laid down place by place.
func bytesOf(l api.Lacp) []byte {
	b := make([]byte, 110)
	for at, v := range map[int]byte{0: 1, 1: 1, 2: 1, 3: 20, 22: 2, 23: 20, 42: 3, 43: 16} {
		b[at] = v
	}
	copy(b[6:], l.Actor.Sys[:])
	copy(b[26:], l.Partner.Sys[:])
	for _, f := range fields() {
		if n := *f.of(&l); f.most == 255 {
			b[f.at] = byte(n)
		} else {
			binary.BigEndian.PutUint16(b[f.at:], uint16(n))
		}
	}
	return b
}

// tells says of each place whether it tells something; all others must be just one number.
func tells() [110]bool {
	var is [110]bool
	for _, from := range []int{4, 24} {
		for i := range 15 {
			is[from+i] = true
		}
	}
	is[44], is[45] = true, true
	return is
}

// held holds Right, Encode and Decode to the document at one.
func held(t *testing.T, l api.Lacp, right bool) {
	t.Helper()
	if got := Right(l); got != right {
		t.Errorf("Right(%+v) = %v", l, got)
	}
	b, e := Encode(l)
	if !right {
		if e != api.ErrArg || len(b) != 0 {
			t.Errorf("Encode(%+v) = % x, %d, want none and ErrArg", l, b, e)
		}
		return
	}
	if want := bytesOf(l); e != api.OK || !bytes.Equal(b, want) {
		t.Errorf("Encode(%+v) = % x, %d, want % x", l, b, e, want)
	}
	if back, e := Decode(b); e != api.OK || back != l {
		t.Errorf("Decode(% x) = %+v, %d, want %+v", b, back, e, l)
	}
}

// refused holds Decode to ErrForm, and to R1 beside it.
func refused(t *testing.T, b []byte) {
	t.Helper()
	if l, e := Decode(b); e != api.ErrForm || l != (api.Lacp{}) {
		t.Errorf("Decode(% x) = %+v, %d, want zero and ErrForm", b, l, e)
	}
}

// P4.1: bytes that are written out here, both ways.
func TestBytes(t *testing.T) {
	full := sampleBytes()
	for _, from := range []int{4, 24} {
		for i := range 15 {
			full[from+i] = 255
		}
	}
	full[44], full[45] = 255, 255
	most := api.Info{
		SysPrio: 65535, Sys: api.Mac{255, 255, 255, 255, 255, 255},
		Key: 65535, PortPrio: 65535, Port: 65535, State: 255,
	}
	empty := make([]byte, 110)
	copy(empty, []byte{1, 1, 1, 20})
	copy(empty[22:], []byte{2, 20})
	copy(empty[42:], []byte{3, 16})
	for _, c := range []struct {
		l api.Lacp
		b []byte
	}{
		{sample(), sampleBytes()},
		{api.Lacp{}, empty},
		{api.Lacp{Actor: most, Partner: most, Delay: 65535}, full},
	} {
		if b, e := Encode(c.l); e != api.OK || !bytes.Equal(b, c.b) || len(b) != 110 {
			t.Errorf("Encode(%+v) = % x, %d, want % x", c.l, b, e, c.b)
		}
		if l, e := Decode(c.b); e != api.OK || l != c.l {
			t.Errorf("Decode(% x) = %+v, %d, want %+v", c.b, l, e, c.l)
		}
		held(t, c.l, true)
	}
}

// P4.1: each number at its edges, those beside them, and far ones, also such as have a right number in their lower bytes.
func TestEdges(t *testing.T) {
	far := []int{
		math.MinInt, math.MinInt + 1, math.MinInt32, -65536, -65535, -32768, -256, -255, -2, -1, 0, 1, 2,
		127, 128, 254, 255, 256, 257, 511, 512, 32767, 32768, 65534, 65535, 65536, 65537, 65536 + 255,
		131071, 1<<24 + 1, math.MaxInt32, 1 << 32, 1<<32 + 1, 1<<48 + 7, math.MaxInt - 1, math.MaxInt,
	}
	for _, base := range []api.Lacp{{}, sample()} {
		for _, f := range fields() {
			for _, n := range far {
				l := base
				*f.of(&l) = n
				held(t, l, n >= 0 && n <= f.most)
			}
		}
	}
}

// P4.1: each value of each number, the higher byte first at its place, and no other byte turned by it.
func TestEachValue(t *testing.T) {
	for _, f := range fields() {
		for n := range f.most + 1 {
			l := sample()
			*f.of(&l) = n
			want := sampleBytes()
			if f.most == 255 {
				want[f.at] = byte(n)
			} else {
				want[f.at], want[f.at+1] = byte(n/256), byte(n%256)
			}
			if b, e := Encode(l); e != api.OK || !bytes.Equal(b, want) {
				t.Fatalf("Encode with %s %d = % x, %d, want % x", f.name, n, b, e, want)
			}
			if back, e := Decode(want); e != api.OK || back != l {
				t.Fatalf("Decode with %s %d = %+v, %d, want %+v", f.name, n, back, e, l)
			}
		}
	}
}

// P4.1: no number makes good for another one that may not be.
func TestRightOfTwo(t *testing.T) {
	all := fields()
	for i, f := range all {
		for _, g := range all[i+1:] {
			for _, n := range []int{-1, 0, f.most, f.most + 1} {
				for _, m := range []int{-1, 0, g.most, g.most + 1} {
					l := sample()
					*f.of(&l), *g.of(&l) = n, m
					held(t, l, n >= 0 && n <= f.most && m >= 0 && m <= g.most)
				}
			}
		}
	}
}

// P4.1: an address may be any, at both ends.
func TestSystems(t *testing.T) {
	for i := range 6 {
		for v := range 256 {
			l := sample()
			l.Actor.Sys[i] = byte(v)
			held(t, l, true)
			l = sample()
			l.Partner.Sys[i] = byte(v)
			held(t, l, true)
		}
	}
}

// P4.1: bytes of any other number than 110 are none, whatever lies behind them in memory.
func TestLengths(t *testing.T) {
	refused(t, nil)
	refused(t, []byte{})
	for _, whole := range [][]byte{sampleBytes(), bytesOf(api.Lacp{})} {
		for n := range 110 {
			refused(t, whole[:n])
			refused(t, bytes.Clone(whole[:n]))
			refused(t, whole[n+1:])
		}
		for _, more := range [][]byte{{0}, {1}, {255}, {0, 0}, make([]byte, 14), make([]byte, 1<<16), whole} {
			refused(t, append(bytes.Clone(whole), more...))
			refused(t, append(bytes.Clone(more), whole...))
		}
		room := append(bytes.Clone(whole), 1, 2, 3)
		if _, e := Decode(room[:110]); e != api.OK {
			t.Errorf("110 bytes with others behind them: %d", e)
		}
		refused(t, room[:109])
		refused(t, room[:111])
	}
	for n := range 300 {
		refused(t, make([]byte, n))
		refused(t, bytes.Repeat([]byte{1}, n))
	}
}

// P4.1: each byte that must be just one number, at each other one; each of the others may be any.
func TestEachByte(t *testing.T) {
	for at, told := range tells() {
		for _, whole := range [][]byte{sampleBytes(), bytesOf(api.Lacp{})} {
			was := whole[at]
			for v := range 256 {
				whole[at] = byte(v)
				switch {
				case !told && byte(v) != was:
					refused(t, whole)
				default:
					l, e := Decode(whole)
					if e != api.OK || !bytes.Equal(bytesOf(l), whole) || !Right(l) {
						t.Errorf("Decode(% x) = %+v, %d", whole, l, e)
					}
				}
			}
		}
	}
}

// P4.1: two wrong bytes do not make a right one, also where their sum or all of their bits would.
func TestTwoBytes(t *testing.T) {
	is := tells()
	for i := range 110 {
		for j := range i {
			if is[i] || is[j] {
				continue
			}
			b := sampleBytes()
			b[i]++
			b[j]--
			refused(t, b)
			b = sampleBytes()
			b[i] ^= 0x80
			b[j] ^= 0x80
			refused(t, b)
			b = sampleBytes()
			if b[i] != b[j] {
				b[i], b[j] = b[j], b[i]
				refused(t, b)
			}
		}
	}
}

// P4.2: infos that differ in nothing, and in just one field.
func TestKnowsByFields(t *testing.T) {
	for _, base := range []api.Info{{}, sample().Actor, sample().Partner, {State: 255}, {SysPrio: -5, State: -1}} {
		if !Knows(base, base) {
			t.Errorf("%+v does not know itself", base)
		}
		var others []api.Info
		for _, by := range []int{1, -1, 256, 65536, 1 << 32, math.MinInt} {
			a, b, c, d := base, base, base, base
			a.SysPrio += by
			b.Key += by
			c.PortPrio += by
			d.Port += by
			others = append(others, a, b, c, d)
		}
		for i := range 6 {
			for _, bit := range []byte{1, 16, 128} {
				a := base
				a.Sys[i] ^= bit
				others = append(others, a)
			}
		}
		for _, other := range others {
			if Knows(base, other) || Knows(other, base) {
				t.Errorf("%+v and %+v are not the same", base, other)
			}
		}
	}
}

// P4.2: numbers that change places are others.
func TestKnowsOfChangedPlaces(t *testing.T) {
	a := api.Info{SysPrio: 1, Key: 2, PortPrio: 3, Port: 4}
	for _, b := range []api.Info{
		{SysPrio: 2, Key: 1, PortPrio: 3, Port: 4},
		{SysPrio: 1, Key: 3, PortPrio: 2, Port: 4},
		{SysPrio: 1, Key: 2, PortPrio: 4, Port: 3},
		{SysPrio: 4, Key: 2, PortPrio: 3, Port: 1},
	} {
		if Knows(a, b) || Knows(b, a) {
			t.Errorf("%+v and %+v are not the same", a, b)
		}
	}
}

// P4.2: each two States of one byte; BitMany is 4, BitSync 8.
func TestKnowsByStates(t *testing.T) {
	for p := range 256 {
		for a := range 256 {
			partner, actor := sample().Actor, sample().Actor
			partner.State, actor.State = p, a
			want := p/4%2 == a/4%2 && p/8%2 <= a/8%2
			if got := Knows(partner, actor); got != want {
				t.Errorf("Knows at States %d and %d = %v", p, a, got)
			}
			actor.Port++
			if Knows(partner, actor) {
				t.Errorf("Knows at States %d and %d, of another Port", p, a)
			}
		}
	}
}

// P4.2: one bit alone turned: BitMany counts either way, BitSync one way, all others not at all.
func TestKnowsByBits(t *testing.T) {
	const many, sync = 1 << 2, 1 << 3
	for _, base := range []int{0, many, sync, many | sync, 255, math.MinInt, math.MaxInt, -1} {
		for i := range 64 {
			one, other := sample().Partner, sample().Partner
			one.State, other.State = base&^(1<<i), base|1<<i
			if got := Knows(one, other); got != (1<<i != many) {
				t.Errorf("State %#x, told with bit %d: %v", base, i, got)
			}
			if got := Knows(other, one); got != (1<<i != many && 1<<i != sync) {
				t.Errorf("State %#x, told without bit %d: %v", base, i, got)
			}
		}
	}
}

// P4.2: which system is ahead.
func TestLess(t *testing.T) {
	last := api.Mac{255, 255, 255, 255, 255, 255}
	for _, c := range []struct{ a, b api.Info }{
		{api.Info{SysPrio: 1}, api.Info{SysPrio: 2}},
		{api.Info{SysPrio: 1, Sys: last}, api.Info{SysPrio: 2}},
		{api.Info{SysPrio: 255, Sys: last}, api.Info{SysPrio: 256}},
		{api.Info{SysPrio: 32767}, api.Info{SysPrio: 32768}},
		{api.Info{}, api.Info{SysPrio: 65535}},
		{api.Info{SysPrio: -1}, api.Info{}},
		{api.Info{SysPrio: math.MinInt}, api.Info{SysPrio: math.MaxInt}},
		{api.Info{SysPrio: math.MinInt, Sys: last}, api.Info{SysPrio: 1}},
		{api.Info{SysPrio: 65535}, api.Info{SysPrio: 65536}},
		{api.Info{SysPrio: 9}, api.Info{SysPrio: 9, Sys: api.Mac{0, 0, 0, 0, 0, 1}}},
		{api.Info{SysPrio: 9, Sys: api.Mac{0, 255, 255, 255, 255, 255}}, api.Info{SysPrio: 9, Sys: api.Mac{1}}},
		{api.Info{SysPrio: 9, Sys: api.Mac{0x7f}}, api.Info{SysPrio: 9, Sys: api.Mac{0x80}}},
		{api.Info{SysPrio: 9, Sys: api.Mac{1, 2, 3, 4, 5, 6}}, api.Info{SysPrio: 9, Sys: api.Mac{1, 2, 3, 4, 5, 7}}},
		{api.Info{SysPrio: 9, Sys: api.Mac{254, 255, 255, 255, 255, 255}}, api.Info{SysPrio: 9, Sys: last}},
	} {
		if !Less(c.a, c.b) {
			t.Errorf("%+v is ahead of %+v", c.a, c.b)
		}
		if Less(c.b, c.a) || Less(c.a, c.a) || Less(c.b, c.b) {
			t.Errorf("%+v and %+v: the wrong way round", c.a, c.b)
		}
	}
}

// P4.2: of the same SysPrio each byte of Sys tells, the first one that differs.
func TestLessBySys(t *testing.T) {
	for i := range 6 {
		for v := range 255 {
			a := api.Info{SysPrio: 7, Sys: api.Mac{9, 9, 9, 9, 9, 9}}
			b := a
			a.Sys[i], b.Sys[i] = byte(v), byte(v+1)
			for j := i + 1; j < 6; j++ {
				a.Sys[j], b.Sys[j] = 255, 0
			}
			if !Less(a, b) || Less(b, a) {
				t.Errorf("%v is ahead of %v", a.Sys, b.Sys)
			}
		}
	}
}

// P4.2: nothing else of an info tells which system is ahead.
func TestLessByNothingElse(t *testing.T) {
	for _, n := range []int{math.MinInt, -1, 0, 1, 255, 65535, math.MaxInt} {
		for _, other := range []api.Info{{Key: n}, {PortPrio: n}, {Port: n}, {State: n}} {
			if Less(api.Info{}, other) || Less(other, api.Info{}) {
				t.Errorf("%+v is of the same system as none", other)
			}
			ahead := other
			other.SysPrio, other.Sys = 3, api.Mac{5}
			ahead.SysPrio, ahead.Sys = 3, api.Mac{4}
			if !Less(ahead, api.Info{SysPrio: 3, Sys: api.Mac{5}}) || !Less(api.Info{SysPrio: 3, Sys: api.Mac{4}}, other) {
				t.Errorf("%+v hides the system", other)
			}
		}
	}
}

// systems are infos of few numbers, so that many of them are of one system.
func systems() []api.Info {
	r := rand.New(rand.NewPCG(7, 8))
	l := []api.Info{{SysPrio: math.MinInt}, {SysPrio: math.MaxInt}, {SysPrio: -1, Sys: api.Mac{255}}}
	for range 90 {
		i := api.Info{SysPrio: r.IntN(3), Key: r.IntN(3), PortPrio: r.IntN(3), Port: r.IntN(3), State: r.IntN(256)}
		i.Sys[r.IntN(6)] = byte(r.IntN(3) * 100)
		l = append(l, i)
	}
	return l
}

// P4.3: Less is an order of systems: of two that are not one, just one is ahead; and who is ahead of one is ahead of those behind it.
func TestLessIsAnOrder(t *testing.T) {
	l := systems()
	for _, a := range l {
		for _, b := range l {
			one := a.SysPrio == b.SysPrio && a.Sys == b.Sys
			if one && (Less(a, b) || Less(b, a)) || !one && Less(a, b) == Less(b, a) {
				t.Errorf("%+v and %+v: %v, %v", a, b, Less(a, b), Less(b, a))
			}
			for _, c := range l {
				if Less(a, b) && Less(b, c) && !Less(a, c) {
					t.Errorf("%+v is ahead of %+v, that of %+v", a, b, c)
				}
			}
		}
	}
}

// chance makes them, near the edges and off them, that are the same in each run.
func chance(r *rand.Rand) api.Lacp {
	var l api.Lacp
	for _, f := range fields() {
		*f.of(&l) = r.IntN(f.most + 1)
		if r.IntN(8) == 0 {
			*f.of(&l) = []int{0, f.most}[r.IntN(2)]
		}
	}
	for i := range 6 {
		l.Actor.Sys[i], l.Partner.Sys[i] = byte(r.Uint32()), byte(r.Uint32())
	}
	if r.IntN(2) == 0 {
		f := fields()[r.IntN(11)]
		*f.of(&l) = []int{-1 - r.IntN(1<<20), f.most + 1 + r.IntN(1<<20)}[r.IntN(2)]
	}
	return l
}

// P4.3 and P2: what was encoded is decoded as it was; each info knows itself.
func TestInverseOfEncode(t *testing.T) {
	r := rand.New(rand.NewPCG(1, 2))
	right := 0
	for range 20000 {
		l := chance(r)
		held(t, l, mayBe(l))
		if mayBe(l) {
			right++
		}
		if !Knows(l.Actor, l.Actor) || !Knows(l.Partner, l.Partner) {
			t.Errorf("%+v: an info does not know itself", l)
		}
	}
	if right < 5000 || right > 15000 {
		t.Errorf("%d of 20000 may be: too few of one kind", right)
	}
}

// P4.3 and P2: what was decoded is encoded as it stood there.
func TestInverseOfDecode(t *testing.T) {
	r := rand.New(rand.NewPCG(3, 4))
	is := tells()
	taken := 0
	for range 20000 {
		b := sampleBytes()
		for at := range b {
			if is[at] {
				b[at] = byte(r.Uint32())
			}
		}
		wrong := r.IntN(3) == 0
		if wrong {
			at := r.IntN(110)
			b[at] ^= byte(1 + r.IntN(255))
			wrong = !is[at]
		}
		if wrong {
			refused(t, b)
			continue
		}
		taken++
		l, e := Decode(b)
		back, f := Encode(l)
		if e != api.OK || f != api.OK || !bytes.Equal(back, b) || !Right(l) {
			t.Errorf("Encode(Decode(% x)) = % x, %d, %d", b, back, e, f)
		}
	}
	if taken < 5000 || taken > 19000 {
		t.Errorf("%d of 20000 were taken", taken)
	}
}

// R3 and R4: bytes handed in stay as they are, those told are the caller's own, and nothing is kept.
func TestSharesNothing(t *testing.T) {
	b := append(sampleBytes(), 7, 7, 7)[:110]
	kept := bytes.Clone(b[:113])
	l, _ := Decode(b)
	if !bytes.Equal(b[:113], kept) {
		t.Errorf("Decode changed its bytes: % x", b[:113])
	}
	clear(b)
	if l != sample() {
		t.Errorf("what is decoded changes with the bytes: %+v", l)
	}
	one, _ := Encode(l)
	other, _ := Encode(l)
	for i := range one {
		one[i] = ^one[i]
	}
	_ = append(one, 9, 9)
	if !bytes.Equal(other, sampleBytes()) {
		t.Errorf("two calls share their bytes: % x", other)
	}
	refused(t, one)
	if again, e := Encode(l); e != api.OK || !bytes.Equal(again, sampleBytes()) {
		t.Errorf("Encode anew = % x, %d", again, e)
	}
}

// P1 and P4.3: no bytes make Decode panic, and what it takes is encoded as it stood there.
func FuzzDecode(f *testing.F) {
	f.Add([]byte{})
	f.Add(sampleBytes())
	f.Add(sampleBytes()[:109])
	f.Add(append(sampleBytes(), 0))
	f.Add(make([]byte, 110))
	f.Fuzz(func(t *testing.T, b []byte) {
		got, e := Decode(b)
		switch {
		case e == api.OK:
			if back, e := Encode(got); e != api.OK || !bytes.Equal(back, b) {
				t.Errorf("Encode(Decode(% x)) = % x, %d", b, back, e)
			}
		case e != api.ErrForm || got != (api.Lacp{}):
			t.Errorf("Decode(% x) = %+v, %d", b, got, e)
		}
	})
}
