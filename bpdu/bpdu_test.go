package bpdu

import (
	"bytes"
	"encoding/binary"
	"math"
	"math/rand/v2"
	"testing"

	"gemel/api"
)

// The three Kinds, as numbers: what bytes tell must not hang on names.
const (
	config = 0
	rapid  = 2
	change = 128
)

// sizes says how many bytes each Kind has.
func sizes() map[int]int { return map[int]int{config: 35, rapid: 36, change: 4} }

// sample is one that may be, no two of whose bytes that tell something are the same, and none of them 0.
func sample(kind int) api.Bpdu {
	if kind == change {
		return api.Bpdu{Kind: change}
	}
	return api.Bpdu{
		Kind: kind, Flags: 0x81,
		Root:   api.Id{Prio: 0x8211, Mac: api.Mac{0x83, 0x84, 0x85, 0x86, 0x87, 0x88}},
		Cost:   0x89121314,
		Bridge: api.Id{Prio: 0x8a15, Mac: api.Mac{0x8b, 0x8c, 0x8d, 0x8e, 0x8f, 0x90}},
		Port:   0x9116,
		Age:    0x9217, MaxAge: 0x9318, Hello: 0x9419, Forward: 0x951a,
	}
}

// sampleBytes are those of sample, as chapter 5 has them.
func sampleBytes(kind int) []byte {
	told := []byte{
		0x81,
		0x82, 0x11, 0x83, 0x84, 0x85, 0x86, 0x87, 0x88,
		0x89, 0x12, 0x13, 0x14,
		0x8a, 0x15, 0x8b, 0x8c, 0x8d, 0x8e, 0x8f, 0x90,
		0x91, 0x16,
		0x92, 0x17, 0x93, 0x18, 0x94, 0x19, 0x95, 0x1a,
	}
	switch kind {
	case config:
		return append([]byte{0, 0, 0, 0}, told...)
	case rapid:
		return append(append([]byte{0, 0, 2, 2}, told...), 0)
	}
	return []byte{0, 0, 0, 128}
}

// field is a number of one: its place among the bytes, and its most.
type field struct {
	name string
	of   func(*api.Bpdu) *int
	at   int
	most int
}

func fields() []field {
	return []field{
		{"Flags", func(p *api.Bpdu) *int { return &p.Flags }, 4, 255},
		{"Root.Prio", func(p *api.Bpdu) *int { return &p.Root.Prio }, 5, 65535},
		{"Cost", func(p *api.Bpdu) *int { return &p.Cost }, 13, 1<<32 - 1},
		{"Bridge.Prio", func(p *api.Bpdu) *int { return &p.Bridge.Prio }, 17, 65535},
		{"Port", func(p *api.Bpdu) *int { return &p.Port }, 25, 65535},
		{"Age", func(p *api.Bpdu) *int { return &p.Age }, 27, 65535},
		{"MaxAge", func(p *api.Bpdu) *int { return &p.MaxAge }, 29, 65535},
		{"Hello", func(p *api.Bpdu) *int { return &p.Hello }, 31, 65535},
		{"Forward", func(p *api.Bpdu) *int { return &p.Forward }, 33, 65535},
	}
}

// put lays a number down at its place.
func (f field) put(b []byte, n int) {
	switch f.most {
	case 255:
		b[f.at] = byte(n)
	case 65535:
		binary.BigEndian.PutUint16(b[f.at:], uint16(n))
	default:
		binary.BigEndian.PutUint32(b[f.at:], uint32(n))
	}
}

// mayBe is the document's word told in another way than the program's.
func mayBe(p api.Bpdu) bool {
	none := api.Mac{}
	for _, f := range fields() {
		n := *f.of(&p)
		if n < 0 || n > f.most || p.Kind == change && n != 0 {
			return false
		}
	}
	switch p.Kind {
	case config, rapid:
		return true
	case change:
		return p.Root.Mac == none && p.Bridge.Mac == none
	}
	return false
}

// bytesOf are those of one that may be, laid down place by place.
func bytesOf(p api.Bpdu) []byte {
	b := make([]byte, sizes()[p.Kind])
	b[3] = byte(p.Kind)
	if p.Kind == change {
		return b
	}
	if p.Kind == rapid {
		b[2] = 2
	}
	copy(b[7:], p.Root.Mac[:])
	copy(b[19:], p.Bridge.Mac[:])
	for _, f := range fields() {
		f.put(b, *f.of(&p))
	}
	return b
}

// tells says whether a place tells something; all others must be just one number.
func tells(at int) bool { return at >= 4 && at <= 34 }

// held holds Right, Encode and Decode to the document at one.
func held(t *testing.T, p api.Bpdu, right bool) {
	t.Helper()
	if got := Right(p); got != right {
		t.Errorf("Right(%+v) = %v", p, got)
	}
	b, e := Encode(p)
	if !right {
		if e != api.ErrArg || len(b) != 0 {
			t.Errorf("Encode(%+v) = % x, %d, want none and ErrArg", p, b, e)
		}
		return
	}
	if want := bytesOf(p); e != api.OK || !bytes.Equal(b, want) {
		t.Errorf("Encode(%+v) = % x, %d, want % x", p, b, e, want)
	}
	if back, e := Decode(b); e != api.OK || back != p {
		t.Errorf("Decode(% x) = %+v, %d, want %+v", b, back, e, p)
	}
}

// refused holds Decode to ErrForm, and to R1 beside it.
func refused(t *testing.T, b []byte) {
	t.Helper()
	if p, e := Decode(b); e != api.ErrForm || p != (api.Bpdu{}) {
		t.Errorf("Decode(% x) = %+v, %d, want zero and ErrForm", b, p, e)
	}
}

// far are numbers at and beside the edges of one, two and four bytes, and such as have a right number in their lower bytes.
func far() []int {
	return []int{
		math.MinInt, math.MinInt + 1, -1 << 48, -1<<32 - 1, -1 << 32, -1<<32 + 1, math.MinInt32, -65537, -65536, -65535,
		-32768, -257, -256, -255, -128, -2, -1, 0, 1, 2, 127, 128, 254, 255, 256, 257, 511, 512,
		32767, 32768, 65534, 65535, 65536, 65537, 65536 + 255, 131071, 1<<24 - 1, 1 << 24, 1<<24 + 1,
		1<<31 - 1, 1 << 31, 1<<32 - 2, 1<<32 - 1, 1 << 32, 1<<32 + 1, 1<<33 - 1, 1 << 40, 1<<48 + 7, 1 << 56,
		math.MaxInt - 1, math.MaxInt,
	}
}

// P5.1: bytes that are written out here, both ways.
func TestBytes(t *testing.T) {
	last := api.Id{Prio: 65535, Mac: api.Mac{255, 255, 255, 255, 255, 255}}
	most := api.Bpdu{
		Flags: 255, Root: last, Cost: 4294967295, Bridge: last, Port: 65535,
		Age: 65535, MaxAge: 65535, Hello: 65535, Forward: 65535,
	}
	mostRapid := most
	mostRapid.Kind = rapid
	ones := bytes.Repeat([]byte{255}, 31)
	for _, c := range []struct {
		p api.Bpdu
		b []byte
	}{
		{sample(config), sampleBytes(config)},
		{sample(rapid), sampleBytes(rapid)},
		{api.Bpdu{Kind: change}, []byte{0, 0, 0, 128}},
		{api.Bpdu{}, make([]byte, 35)},
		{api.Bpdu{Kind: rapid}, append([]byte{0, 0, 2, 2}, make([]byte, 32)...)},
		{most, append([]byte{0, 0, 0, 0}, ones...)},
		{mostRapid, append(append([]byte{0, 0, 2, 2}, ones...), 0)},
	} {
		if b, e := Encode(c.p); e != api.OK || !bytes.Equal(b, c.b) {
			t.Errorf("Encode(%+v) = % x, %d, want % x", c.p, b, e, c.b)
		}
		if p, e := Decode(c.b); e != api.OK || p != c.p {
			t.Errorf("Decode(% x) = %+v, %d, want %+v", c.b, p, e, c.p)
		}
		held(t, c.p, true)
	}
}

// P5.1: api's names of the three Kinds are these numbers.
func TestNamesOfKinds(t *testing.T) {
	for kind, is := range map[int]int{config: api.BpduConfig, rapid: api.BpduRapid, change: api.BpduChange} {
		if kind != is {
			t.Errorf("the Kind %d is %d", kind, is)
		}
	}
}

// P5.1: each of the three Kinds, and others, also such as have one of the three in their lowest byte.
func TestKinds(t *testing.T) {
	kinds := far()
	for kind := -600; kind < 600; kind++ {
		kinds = append(kinds, kind)
	}
	for _, kind := range kinds {
		empty, full := api.Bpdu{Kind: kind}, sample(config)
		full.Kind = kind
		held(t, empty, kind == config || kind == rapid || kind == change)
		held(t, full, kind == config || kind == rapid)
	}
}

// P5.1: of BpduChange each other field not zero, one at a time, though another Kind may have it so.
func TestChangeHasNothingElse(t *testing.T) {
	for _, f := range fields() {
		for _, n := range append(far(), f.most) {
			p := api.Bpdu{Kind: change}
			*f.of(&p) = n
			held(t, p, n == 0)
		}
	}
	for i := range 6 {
		for v := range 256 {
			root, bridge := api.Bpdu{Kind: change}, api.Bpdu{Kind: change}
			root.Root.Mac[i], bridge.Bridge.Mac[i] = byte(v), byte(v)
			held(t, root, v == 0)
			held(t, bridge, v == 0)
		}
	}
}

// P5.1: each number of the other two Kinds at its edges, those beside them, and far ones.
func TestEdges(t *testing.T) {
	for _, base := range []api.Bpdu{{}, {Kind: rapid}, sample(config), sample(rapid)} {
		for _, f := range fields() {
			for _, n := range append(far(), -1, 0, f.most, f.most+1) {
				p := base
				*f.of(&p) = n
				held(t, p, n >= 0 && n <= f.most)
			}
		}
	}
}

// values are all of a number's, where they are not too many; else each one of each of its bytes.
func (f field) values() []int {
	var l []int
	if f.most <= 65535 {
		for n := range f.most + 1 {
			l = append(l, n)
		}
		return l
	}
	for shift := 0; shift < 32; shift += 8 {
		for v := range 256 {
			l = append(l, v<<shift, f.most&^(255<<shift)|v<<shift)
		}
	}
	return l
}

// P5.1: each value of each number, the highest byte first at its place, and no other byte turned by it.
func TestEachValue(t *testing.T) {
	for _, kind := range []int{config, rapid} {
		for _, f := range fields() {
			for _, n := range f.values() {
				p := sample(kind)
				*f.of(&p) = n
				want := sampleBytes(kind)
				f.put(want, n)
				if b, e := Encode(p); e != api.OK || !bytes.Equal(b, want) {
					t.Fatalf("Encode with %s %d = % x, %d, want % x", f.name, n, b, e, want)
				}
				if back, e := Decode(want); e != api.OK || back != p {
					t.Fatalf("Decode with %s %d = %+v, %d, want %+v", f.name, n, back, e, p)
				}
			}
		}
	}
}

// P5.1: no number makes good for another one that may not be.
func TestRightOfTwo(t *testing.T) {
	all := fields()
	for i, f := range all {
		for _, g := range all[i+1:] {
			for _, n := range []int{-1, 0, f.most, f.most + 1} {
				for _, m := range []int{-1, 0, g.most, g.most + 1} {
					p := sample(rapid)
					*f.of(&p), *g.of(&p) = n, m
					held(t, p, n >= 0 && n <= f.most && m >= 0 && m <= g.most)
				}
			}
		}
	}
}

// P5.1: an address may be any, of the root and of the bridge.
func TestMacs(t *testing.T) {
	for _, kind := range []int{config, rapid} {
		for i := range 6 {
			for v := range 256 {
				p := sample(kind)
				p.Root.Mac[i] = byte(v)
				held(t, p, true)
				p = sample(kind)
				p.Bridge.Mac[i] = byte(v)
				held(t, p, true)
			}
		}
	}
}

// P5.1: of each Kind, bytes of any other number than it has are none, whatever lies behind them in memory.
func TestLengths(t *testing.T) {
	refused(t, nil)
	refused(t, []byte{})
	for kind, size := range sizes() {
		whole := sampleBytes(kind)
		if len(whole) != size {
			t.Fatalf("the sample of the Kind %d has %d bytes", kind, len(whole))
		}
		for n := range size {
			refused(t, whole[:n])
			refused(t, bytes.Clone(whole[:n]))
			refused(t, whole[n+1:])
		}
		for n := 1; n < 80; n++ {
			refused(t, append(bytes.Clone(whole), make([]byte, n)...))
			refused(t, append(bytes.Clone(whole), bytes.Repeat([]byte{255}, n)...))
		}
		refused(t, append(bytes.Clone(whole), make([]byte, 1<<16)...))
		refused(t, append(bytes.Clone(whole), whole...))
		refused(t, append([]byte{0}, whole...))
		room := append(bytes.Clone(whole), 1, 2, 3)
		if p, e := Decode(room[:size]); e != api.OK || p != sample(kind) {
			t.Errorf("the bytes of the Kind %d, with others behind them: %+v, %d", kind, p, e)
		}
		refused(t, room[:size-1])
		refused(t, room[:size+1])
	}
	for n := range 100 {
		if n != 35 {
			refused(t, make([]byte, n))
		}
		refused(t, bytes.Repeat([]byte{1}, n))
		refused(t, bytes.Repeat([]byte{2}, n))
		refused(t, bytes.Repeat([]byte{255}, n))
	}
}

// P5.1: each version with each Kind, at all three numbers of bytes, and those beside them.
func TestVersions(t *testing.T) {
	for _, n := range []int{3, 4, 5, 34, 35, 36, 37} {
		b := make([]byte, n)
		for version := range 256 {
			for kind := range 256 {
				if n > 3 {
					b[3] = byte(kind)
				}
				b[2] = byte(version)
				size, is := sizes()[kind]
				right := is && size == n && version == map[int]int{rapid: 2}[kind]
				if !right {
					refused(t, b)
				} else if p, e := Decode(b); e != api.OK || p != (api.Bpdu{Kind: kind}) {
					t.Errorf("Decode(% x) = %+v, %d", b, p, e)
				}
			}
		}
	}
}

// P5.1: the bytes of each Kind, with the version, or the Kind, of another one.
func TestHeadsOfOthers(t *testing.T) {
	for kind := range sizes() {
		for other := range sizes() {
			head := sampleBytes(other)[:4]
			b := sampleBytes(kind)
			if head[2] != b[2] {
				b[2] = head[2]
				refused(t, b)
			}
			if b = sampleBytes(kind); head[3] != b[3] {
				b[3] = head[3]
				refused(t, b)
				copy(b, head)
				refused(t, b)
			}
		}
	}
}

// P5.1: each byte that must be just one number, at each other one; each of the others may be any.
func TestEachByte(t *testing.T) {
	for kind := range sizes() {
		for _, whole := range [][]byte{sampleBytes(kind), bytesOf(api.Bpdu{Kind: kind})} {
			for at, was := range bytes.Clone(whole) {
				for v := range 256 {
					whole[at] = byte(v)
					if !tells(at) && byte(v) != was {
						refused(t, whole)
						continue
					}
					p, e := Decode(whole)
					if e != api.OK || !mayBe(p) || !Right(p) || !bytes.Equal(bytesOf(p), whole) {
						t.Errorf("Decode(% x) = %+v, %d", whole, p, e)
					}
				}
				whole[at] = was
			}
		}
	}
}

// P5.1: two wrong bytes do not make a right one, also where their sum or all of their bits would.
func TestTwoBytes(t *testing.T) {
	for kind, size := range sizes() {
		for i := range size {
			for j := range i {
				if tells(i) || tells(j) {
					continue
				}
				b := sampleBytes(kind)
				b[i]++
				b[j]--
				refused(t, b)
				b = sampleBytes(kind)
				b[i] ^= 0x80
				b[j] ^= 0x80
				refused(t, b)
				b = sampleBytes(kind)
				if b[i] != b[j] {
					b[i], b[j] = b[j], b[i]
					refused(t, b)
				}
			}
		}
	}
}

// P5.2: ids that differ in Prio alone, in Mac alone, in both, and in neither.
func TestCompare(t *testing.T) {
	last := api.Mac{255, 255, 255, 255, 255, 255}
	for _, c := range []struct{ a, b api.Id }{
		{api.Id{Prio: 1}, api.Id{Prio: 2}},
		{api.Id{Prio: 1, Mac: api.Mac{9}}, api.Id{Prio: 2, Mac: api.Mac{9}}},
		{api.Id{Prio: 1, Mac: last}, api.Id{Prio: 2}},
		{api.Id{Prio: 1}, api.Id{Prio: 2, Mac: last}},
		{api.Id{Prio: 255, Mac: last}, api.Id{Prio: 256}},
		{api.Id{Prio: 32767}, api.Id{Prio: 32768}},
		{api.Id{}, api.Id{Prio: 65535}},
		{api.Id{Prio: 4096, Mac: last}, api.Id{Prio: 32768}},
		{api.Id{Prio: 65535}, api.Id{Prio: 65536}},
		{api.Id{Prio: -1, Mac: last}, api.Id{}},
		{api.Id{Prio: math.MinInt, Mac: last}, api.Id{Prio: math.MaxInt}},
		{api.Id{Prio: math.MinInt, Mac: last}, api.Id{Prio: 1}},
		{api.Id{Prio: 9}, api.Id{Prio: 9, Mac: api.Mac{0, 0, 0, 0, 0, 1}}},
		{api.Id{Prio: 9, Mac: api.Mac{0, 255, 255, 255, 255, 255}}, api.Id{Prio: 9, Mac: api.Mac{1}}},
		{api.Id{Prio: 9, Mac: api.Mac{0x7f}}, api.Id{Prio: 9, Mac: api.Mac{0x80}}},
		{api.Id{Prio: 9, Mac: api.Mac{1, 2, 3, 4, 5, 6}}, api.Id{Prio: 9, Mac: api.Mac{1, 2, 3, 4, 5, 7}}},
		{api.Id{Prio: 9, Mac: api.Mac{254, 255, 255, 255, 255, 255}}, api.Id{Prio: 9, Mac: last}},
	} {
		if x, y := Compare(c.a, c.b), Compare(c.b, c.a); x != -1 || y != 1 {
			t.Errorf("%+v and %+v: %d, %d, want -1, 1", c.a, c.b, x, y)
		}
		if x, y := Compare(c.a, c.a), Compare(c.b, c.b); x != 0 || y != 0 {
			t.Errorf("%+v, %+v, each with itself: %d, %d", c.a, c.b, x, y)
		}
	}
}

// P5.2: of the same Prio each byte of Mac tells, the first one that differs.
func TestCompareByMac(t *testing.T) {
	for i := range 6 {
		for v := range 255 {
			a := api.Id{Prio: 7, Mac: api.Mac{9, 9, 9, 9, 9, 9}}
			b := a
			a.Mac[i], b.Mac[i] = byte(v), byte(v+1)
			for j := i + 1; j < 6; j++ {
				a.Mac[j], b.Mac[j] = 255, 0
			}
			if Compare(a, b) != -1 || Compare(b, a) != 1 {
				t.Errorf("%v is ahead of %v", a.Mac, b.Mac)
			}
		}
	}
}

// ids are of few numbers, so that many of them are the same in one field, or in both.
func ids() []api.Id {
	r := rand.New(rand.NewPCG(7, 8))
	l := []api.Id{{Prio: math.MinInt}, {Prio: math.MaxInt}, {Prio: -1, Mac: api.Mac{255}}, {Prio: 65535, Mac: api.Mac{1}}}
	for range 90 {
		id := api.Id{Prio: r.IntN(3)}
		id.Mac[r.IntN(6)] = byte(r.IntN(3) * 100)
		l = append(l, id)
	}
	return l
}

// P5.3: a bridge's order is one: 0 of the same id alone, turned round where its arguments are, and it goes through.
func TestCompareIsAnOrder(t *testing.T) {
	l := ids()
	for _, a := range l {
		for _, b := range l {
			got := Compare(a, b)
			if got < -1 || got > 1 || (got == 0) != (a == b) || Compare(b, a) != -got {
				t.Errorf("%+v and %+v: %d, %d", a, b, got, Compare(b, a))
			}
			for _, c := range l {
				if got <= 0 && Compare(b, c) <= 0 && Compare(a, c) > 0 {
					t.Errorf("%+v, %+v, %+v are in no order", a, b, c)
				}
			}
		}
	}
}

// P5.3: the order of ids that may be in a BPDU is that of their bytes.
func TestCompareIsTheOrderOfBytes(t *testing.T) {
	r := rand.New(rand.NewPCG(9, 10))
	for range 20000 {
		a, b := chance(r), chance(r)
		a.Kind, b.Kind = rapid, config
		if r.IntN(2) == 0 {
			b.Bridge.Prio = a.Root.Prio
		}
		x, e := Encode(a)
		y, f := Encode(b)
		if e != api.OK || f != api.OK {
			continue
		}
		if got, want := Compare(a.Root, b.Bridge), bytes.Compare(x[5:13], y[17:25]); got != want {
			t.Errorf("Compare(%+v, %+v) = %d, the bytes' order is %d", a.Root, b.Bridge, got, want)
		}
	}
}

// chance makes them, near the edges and off them, that are the same in each run.
func chance(r *rand.Rand) api.Bpdu {
	p := api.Bpdu{Kind: []int{config, rapid, rapid, change}[r.IntN(4)]}
	if p.Kind == change && r.IntN(2) == 0 {
		return p
	}
	for _, f := range fields() {
		*f.of(&p) = r.IntN(f.most + 1)
		if r.IntN(8) == 0 {
			*f.of(&p) = []int{0, f.most}[r.IntN(2)]
		}
	}
	for i := range 6 {
		p.Root.Mac[i], p.Bridge.Mac[i] = byte(r.Uint32()), byte(r.Uint32())
	}
	switch r.IntN(6) {
	case 0:
		f := fields()[r.IntN(9)]
		*f.of(&p) = []int{-1 - r.IntN(1<<20), f.most + 1 + r.IntN(1<<20)}[r.IntN(2)]
	case 1:
		p.Kind = r.IntN(300) - 20
	}
	return p
}

// P5.3 and P2: what was encoded is decoded as it was.
func TestInverseOfEncode(t *testing.T) {
	r := rand.New(rand.NewPCG(1, 2))
	right := map[int]int{}
	for range 20000 {
		p := chance(r)
		held(t, p, mayBe(p))
		if mayBe(p) {
			right[p.Kind]++
		}
	}
	all := right[config] + right[rapid] + right[change]
	if right[config] < 1000 || right[rapid] < 1000 || right[change] < 1000 || all > 18000 {
		t.Errorf("of 20000 may be: %v, too few of one kind", right)
	}
}

// P5.3 and P2: what was decoded is encoded as it stood there.
func TestInverseOfDecode(t *testing.T) {
	r := rand.New(rand.NewPCG(3, 4))
	taken := 0
	for range 20000 {
		b := sampleBytes([]int{config, rapid, change}[r.IntN(3)])
		for at := range b {
			if tells(at) {
				b[at] = byte(r.Uint32())
			}
		}
		if r.IntN(3) == 0 {
			at := r.IntN(len(b))
			b[at] ^= byte(1 + r.IntN(255))
			if !tells(at) {
				refused(t, b)
				continue
			}
		}
		taken++
		p, e := Decode(b)
		back, f := Encode(p)
		if e != api.OK || f != api.OK || !bytes.Equal(back, b) || !Right(p) {
			t.Errorf("Encode(Decode(% x)) = % x, %d, %d", b, back, e, f)
		}
	}
	if taken < 5000 || taken > 19000 {
		t.Errorf("%d of 20000 were taken", taken)
	}
}

// P5.3: no two that may be have the same bytes, nor the same first ones.
func TestNoneBeginsAnother(t *testing.T) {
	r := rand.New(rand.NewPCG(5, 6))
	whole := map[string]api.Bpdu{}
	for range 5000 {
		p := chance(r)
		b, e := Encode(p)
		if e != api.OK {
			continue
		}
		if other, is := whole[string(b)]; is && other != p {
			t.Errorf("%+v and %+v have the same bytes", p, other)
		}
		whole[string(b)] = p
	}
	for s := range whole {
		for n := range len(s) {
			if p, is := whole[s[:n]]; is {
				t.Errorf("the bytes of %+v begin those of %+v", p, whole[s])
			}
		}
	}
}

// R3 and R4: bytes handed in stay as they are, those told are the caller's own, and nothing is kept.
func TestSharesNothing(t *testing.T) {
	for kind, size := range sizes() {
		b := append(sampleBytes(kind), 7, 7, 7)[:size]
		kept := bytes.Clone(b[:size+3])
		p, _ := Decode(b)
		if !bytes.Equal(b[:size+3], kept) {
			t.Errorf("Decode changed its bytes: % x", b[:size+3])
		}
		clear(b)
		if p != sample(kind) {
			t.Errorf("what is decoded changes with the bytes: %+v", p)
		}
		one, _ := Encode(p)
		other, _ := Encode(p)
		for i := range one {
			one[i] = ^one[i]
		}
		_ = append(one, 9, 9)
		if !bytes.Equal(other, sampleBytes(kind)) {
			t.Errorf("two calls share their bytes: % x", other)
		}
		refused(t, one)
		if again, e := Encode(p); e != api.OK || !bytes.Equal(again, sampleBytes(kind)) {
			t.Errorf("Encode anew = % x, %d", again, e)
		}
	}
}

// P1 and P5.3: no bytes make Decode panic, and what it takes is encoded as it stood there.
func FuzzDecode(f *testing.F) {
	f.Add([]byte{})
	for kind, size := range sizes() {
		f.Add(sampleBytes(kind))
		f.Add(sampleBytes(kind)[:size-1])
		f.Add(append(sampleBytes(kind), 0))
		f.Add(make([]byte, size))
	}
	f.Fuzz(func(t *testing.T, b []byte) {
		got, e := Decode(b)
		switch {
		case e == api.OK:
			if back, e := Encode(got); e != api.OK || !bytes.Equal(back, b) {
				t.Errorf("Encode(Decode(% x)) = % x, %d", b, back, e)
			}
		case e != api.ErrForm || got != (api.Bpdu{}):
			t.Errorf("Decode(% x) = %+v, %d", b, got, e)
		}
	})
}
