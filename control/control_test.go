package control

import (
	"bytes"
	"encoding/binary"
	"math"
	"math/rand/v2"
	"reflect"
	"strings"
	"testing"

	"gemel/api"
)

// The Kinds, as numbers: what bytes tell must not hang on names.
const (
	none = iota
	learn
	gone
	member
	blocked
	bpdu
	port
	bulk
	frame
)

// last is the greatest number that Epoch, Seq, Ack and a keepalive's epoch may be.
const last = 1073741824

// fieldsIn says of each Kind which fields it has, by their first letters, in the order of their bytes.
func fieldsIn(kind int) string {
	return []string{"", "VMP", "VM", "PS", "PS", "PB", "PS", "S", "VPSB"}[kind]
}

// mostIn says of each Kind that has a State how great it may be.
func mostIn(kind int) int {
	return map[int]int{member: 1, blocked: 1, port: 2, bulk: 1, frame: 250}[kind]
}

// has says whether a Kind has the field of that letter.
func has(kind int, letter string) bool { return strings.Contains(fieldsIn(kind), letter) }

// sample is a packet that may be, all of whose bytes that tell something are others, and none of them 0.
func sample(kind int) api.Packet {
	n := api.Note{Kind: kind}
	for _, letter := range fieldsIn(kind) {
		switch letter {
		case 'V':
			n.Vlan = 0x0a0b
		case 'M':
			n.Mac = api.Mac{0x81, 0x82, 0x83, 0x84, 0x85, 0x86}
		case 'P':
			n.Port = 0x03c1
		case 'S':
			n.State = mostIn(kind)
		case 'B':
			n.Body = []byte{0x91, 0x92, 0x93}
		}
	}
	return api.Packet{Epoch: 0x11121314, Seq: 0x21222324, Ack: 0x31323334, Note: n}
}

// sampleBytes are those of sample, as chapter 6 has them.
func sampleBytes(kind int) []byte {
	head := []byte{0x11, 0x12, 0x13, 0x14, 0x21, 0x22, 0x23, 0x24, 0x31, 0x32, 0x33, 0x34}
	return append(head, [][]byte{
		none:    {0},
		learn:   {1, 0x0a, 0x0b, 0x81, 0x82, 0x83, 0x84, 0x85, 0x86, 0x03, 0xc1},
		gone:    {2, 0x0a, 0x0b, 0x81, 0x82, 0x83, 0x84, 0x85, 0x86},
		member:  {3, 0x03, 0xc1, 1},
		blocked: {4, 0x03, 0xc1, 1},
		bpdu:    {5, 0x03, 0xc1, 0, 3, 0x91, 0x92, 0x93},
		port:    {6, 0x03, 0xc1, 2},
		bulk:    {7, 1},
		frame:   {8, 0x0a, 0x0b, 0x03, 0xc1, 250, 0, 3, 0x91, 0x92, 0x93},
	}[kind]...)
}

// least is the packet of a Kind all of whose numbers are as low as they may be.
func least(kind int) api.Packet {
	p := api.Packet{Note: api.Note{Kind: kind}}
	if has(kind, "V") {
		p.Note.Vlan = 1
	}
	return p
}

// field is a number of a note: its letter, and its bounds.
type field struct {
	letter string
	of     func(*api.Note) *int
	least  int
	most   func(kind int) int
}

func fields() []field {
	return []field{
		{"V", func(n *api.Note) *int { return &n.Vlan }, 1, func(int) int { return 4094 }},
		{"P", func(n *api.Note) *int { return &n.Port }, 0, func(int) int { return 1000 }},
		{"S", func(n *api.Note) *int { return &n.State }, 0, mostIn},
	}
}

// orders are the three numbers ahead of a note.
func orders() []func(*api.Packet) *int {
	return []func(*api.Packet) *int{
		func(p *api.Packet) *int { return &p.Epoch },
		func(p *api.Packet) *int { return &p.Seq },
		func(p *api.Packet) *int { return &p.Ack },
	}
}

// noteMayBe and mayBe are the document's words told in another way than the program's.
func noteMayBe(n api.Note) bool {
	if n.Kind < 0 || n.Kind > 8 {
		return false
	}
	for _, f := range fields() {
		v := *f.of(&n)
		if has(n.Kind, f.letter) && (v < f.least || v > f.most(n.Kind)) || !has(n.Kind, f.letter) && v != 0 {
			return false
		}
	}
	if !has(n.Kind, "M") && n.Mac != (api.Mac{}) {
		return false
	}
	return len(n.Body) == 0 || has(n.Kind, "B") && len(n.Body) <= 1600
}

func mayBe(p api.Packet) bool {
	for _, of := range orders() {
		if v := *of(&p); v < 0 || v > last {
			return false
		}
	}
	return noteMayBe(p.Note)
}

// bytesOf are those of a packet that may be.
func bytesOf(p api.Packet) []byte {
	var b []byte
	for _, of := range orders() {
		b = binary.BigEndian.AppendUint32(b, uint32(*of(&p)))
	}
	b = append(b, byte(p.Note.Kind))
	for _, letter := range fieldsIn(p.Note.Kind) {
		switch letter {
		case 'V':
			b = binary.BigEndian.AppendUint16(b, uint16(p.Note.Vlan))
		case 'M':
			b = append(b, p.Note.Mac[:]...)
		case 'P':
			b = binary.BigEndian.AppendUint16(b, uint16(p.Note.Port))
		case 'S':
			b = append(b, byte(p.Note.State))
		case 'B':
			b = binary.BigEndian.AppendUint16(b, uint16(len(p.Note.Body)))
			b = append(b, p.Note.Body...)
		}
	}
	return b
}

// sizeOf is how many bytes a packet of a Kind has, whose Body has so many.
func sizeOf(kind, body int) int {
	return []int{13, 23, 21, 16, 16, 17 + body, 16, 14, 20 + body}[kind]
}

// bodyAt is where the number of a Body's bytes stands.
func bodyAt(kind int) int { return sizeOf(kind, 0) - 2 }

// packetOf reads bytes at the places where each Kind has them, and holds what it read to the words.
func packetOf(b []byte) (api.Packet, bool) {
	if len(b) < 13 || b[12] > 8 {
		return api.Packet{}, false
	}
	kind := int(b[12])
	if len(b) < sizeOf(kind, 0) {
		return api.Packet{}, false
	}
	pair := func(at int) int { return int(binary.BigEndian.Uint16(b[at:])) }
	p := api.Packet{
		Epoch: int(binary.BigEndian.Uint32(b)),
		Seq:   int(binary.BigEndian.Uint32(b[4:])),
		Ack:   int(binary.BigEndian.Uint32(b[8:])),
		Note:  api.Note{Kind: kind},
	}
	n := &p.Note
	switch kind {
	case learn:
		n.Vlan, n.Mac, n.Port = pair(13), api.Mac(b[15:21]), pair(21)
	case gone:
		n.Vlan, n.Mac = pair(13), api.Mac(b[15:21])
	case member, blocked, port:
		n.Port, n.State = pair(13), int(b[15])
	case bpdu:
		n.Port, n.Body = pair(13), b[17:]
	case bulk:
		n.State = int(b[13])
	case frame:
		n.Vlan, n.Port, n.State, n.Body = pair(13), pair(15), int(b[17]), b[20:]
	}
	if len(b) != sizeOf(kind, len(n.Body)) || has(kind, "B") && pair(bodyAt(kind)) != len(n.Body) {
		return api.Packet{}, false
	}
	return p, mayBe(p)
}

// same holds two packets against one another; a Body of no bytes may be nil or not (R2).
func same(a, b api.Packet) bool {
	if !bytes.Equal(a.Note.Body, b.Note.Body) {
		return false
	}
	a.Note.Body, b.Note.Body = nil, nil
	return reflect.DeepEqual(a, b)
}

// held holds Right, Encode and Decode to the document at one packet.
func held(t *testing.T, p api.Packet, right bool) {
	t.Helper()
	if got := Right(p.Note); got != noteMayBe(p.Note) {
		t.Errorf("Right(%+v) = %v", p.Note, got)
	}
	b, e := Encode(p)
	if !right {
		if e != api.ErrArg || len(b) != 0 {
			t.Errorf("Encode(%+v) = % x, %d, want none and ErrArg", p, b, e)
		}
		return
	}
	if want := bytesOf(p); e != api.OK || !bytes.Equal(b, want) {
		t.Errorf("Encode(%+v) = % x, %d, want % x", p, b, e, want)
	}
	if back, e := Decode(b); e != api.OK || !same(back, p) {
		t.Errorf("Decode(% x) = %+v, %d, want %+v", b, back, e, p)
	}
	notTold(t, b)
}

// noteHeld holds a note of which is known whether it may be, by itself and in a packet.
func noteHeld(t *testing.T, n api.Note, right bool) {
	t.Helper()
	if got := Right(n); got != right {
		t.Errorf("Right(%+v) = %v", n, got)
	}
	held(t, api.Packet{Epoch: 1, Seq: 2, Ack: 3, Note: n}, right)
}

// read holds Decode to the document at bytes.
func read(t *testing.T, b []byte) {
	t.Helper()
	want, is := packetOf(b)
	if !is {
		refused(t, b)
		return
	}
	p, e := Decode(b)
	if e != api.OK || !same(p, want) {
		t.Errorf("Decode(% x) = %+v, %d, want %+v", b, p, e, want)
	}
	if back, e := Encode(p); e != api.OK || !bytes.Equal(back, b) {
		t.Errorf("Encode(Decode(% x)) = % x, %d", b, back, e)
	}
}

// refused holds Decode to ErrForm, and to R1 beside it.
func refused(t *testing.T, b []byte) {
	t.Helper()
	if p, e := Decode(b); e != api.ErrForm || !same(p, api.Packet{}) {
		t.Errorf("Decode(% x) = %+v, %d, want zero and ErrForm", b, p, e)
	}
}

// notTold holds Told to ErrForm, and to R1 beside it.
func notTold(t *testing.T, b []byte) {
	t.Helper()
	if epoch, prio, primary, e := Told(b); e != api.ErrForm || epoch != 0 || prio != 0 || primary {
		t.Errorf("Told(% x) = %d, %d, %v, %d, want zeros and ErrForm", b, epoch, prio, primary, e)
	}
}

// far are numbers at and beside the edges that the chapter names, and such as have a right number in their lower bytes.
func far() []int {
	return []int{
		math.MinInt, math.MinInt + 1, -1 << 48, -1<<32 - 1, -1 << 32, -1<<32 + 1, math.MinInt32, -last - 1, -last,
		-65537, -65536, -65535, -4094, -1000, -257, -256, -255, -250, -2, -1, 0, 1, 2, 3, 4, 5, 6, 7, 8, 9, 10, 75,
		127, 128, 249, 250, 251, 254, 255, 256, 257, 258, 511, 512, 999, 1000, 1001, 1023, 1024, 1599, 1600, 1601,
		4093, 4094, 4095, 4096, 4097, 32767, 32768, 65534, 65535, 65536, 65537, 65536 + 255, 65536 + 1000, 1 << 24,
		last - 1, last, last + 1, 1<<31 - 1, 1 << 31, 1<<32 - 1, 1 << 32, 1<<32 + 1, 1<<32 + 2, 1<<40 + 1, 1<<48 + 1,
		1<<56 + 1, 1<<62 + 1, math.MaxInt - 1, math.MaxInt,
	}
}

// P6.1: bytes that are written out here, both ways, the highest one first.
func TestBytes(t *testing.T) {
	for kind := range 9 {
		p, b := sample(kind), sampleBytes(kind)
		if got, e := Encode(p); e != api.OK || !bytes.Equal(got, b) {
			t.Errorf("Encode(%+v) = % x, %d, want % x", p, got, e, b)
		}
		if got, e := Decode(b); e != api.OK || !same(got, p) {
			t.Errorf("Decode(% x) = %+v, %d, want %+v", b, got, e, p)
		}
		held(t, p, true)
		held(t, least(kind), true)
		read(t, b)
		if len(b) != sizeOf(kind, len(p.Note.Body)) {
			t.Errorf("a packet of the Kind %d has %d bytes", kind, len(b))
		}
	}
	for _, c := range []struct {
		p api.Packet
		b []byte
	}{
		{api.Packet{}, make([]byte, 13)},
		{
			api.Packet{Epoch: 1, Seq: 2, Ack: 3, Note: api.Note{Kind: gone, Vlan: 10, Mac: api.Mac{1, 2, 3, 4, 5, 6}}},
			[]byte{0, 0, 0, 1, 0, 0, 0, 2, 0, 0, 0, 3, 2, 0, 10, 1, 2, 3, 4, 5, 6},
		},
		{
			api.Packet{Epoch: last, Seq: last, Ack: last, Note: api.Note{Kind: bpdu, Port: 1000}},
			[]byte{0x40, 0, 0, 0, 0x40, 0, 0, 0, 0x40, 0, 0, 0, 5, 0x03, 0xe8, 0, 0},
		},
		{
			api.Packet{Seq: 65536, Note: api.Note{Kind: frame, Vlan: 4094, Body: make([]byte, 1600)}},
			append([]byte{0, 0, 0, 0, 0, 1, 0, 0, 0, 0, 0, 0, 8, 0x0f, 0xfe, 0, 0, 0, 0x06, 0x40}, make([]byte, 1600)...),
		},
	} {
		if got, e := Encode(c.p); e != api.OK || !bytes.Equal(got, c.b) {
			t.Errorf("Encode(%+v) = % x, %d, want % x", c.p, got, e, c.b)
		}
		if got, e := Decode(c.b); e != api.OK || !same(got, c.p) {
			t.Errorf("Decode(% x) = %+v, %d, want %+v", c.b, got, e, c.p)
		}
	}
}

// P6.1: api's names of the eight Kinds are these numbers, and its limits these.
func TestNames(t *testing.T) {
	for number, name := range []int{
		0, api.NoteLearn, api.NoteGone, api.NoteMember, api.NoteBlocked, api.NoteBpdu, api.NotePort, api.NoteBulk, api.NoteFrame,
	} {
		if number != name {
			t.Errorf("the Kind %d is %d", number, name)
		}
	}
	if api.MaxSeq != last || api.MaxNote != 1600 || api.MaxVlan != 4094 {
		t.Error("the limits are others")
	}
}

// P6.1: each Kind, and others, also such as have a Kind in their lowest byte; with all that another Kind has, and without.
func TestKinds(t *testing.T) {
	kinds := far()
	for kind := -300; kind < 600; kind++ {
		kinds = append(kinds, kind)
	}
	for _, kind := range kinds {
		for other := range 9 {
			for _, p := range []api.Packet{sample(other), least(other)} {
				p.Note.Kind = kind
				held(t, p, mayBe(p))
				if kind < 0 || kind > 8 {
					noteHeld(t, p.Note, false)
				}
			}
		}
	}
}

// P6.1: each Kind's bytes with each number in place of the Kind, of many lengths.
func TestKindsOfBytes(t *testing.T) {
	for kind := range 9 {
		for _, b := range [][]byte{sampleBytes(kind), bytesOf(least(kind))} {
			for v := range 256 {
				b[12] = byte(v)
				read(t, b)
				if v > 8 {
					refused(t, b)
				}
			}
		}
	}
	for v := range 256 {
		for n := range 60 {
			b := make([]byte, 13+n)
			b[12] = byte(v)
			read(t, b)
			for i := range n {
				b[13+i] = byte(i % 2)
			}
			read(t, b)
		}
	}
}

// P6.1: of each Kind every field that it has not, not zero, one at a time.
func TestFieldsOfOthers(t *testing.T) {
	for kind := range 9 {
		for _, base := range []api.Note{sample(kind).Note, least(kind).Note} {
			for _, f := range fields() {
				for _, v := range far() {
					n := base
					*f.of(&n) = v
					if !has(kind, f.letter) {
						noteHeld(t, n, v == 0)
					}
				}
			}
			for i := range 48 {
				n := base
				n.Mac[i/8] ^= 1 << (i % 8)
				noteHeld(t, n, has(kind, "M"))
			}
			for _, body := range [][]byte{{0}, {1}, {0, 0}, make([]byte, 256), make([]byte, 1600)} {
				n := base
				n.Body = body
				noteHeld(t, n, has(kind, "B"))
			}
			n := base
			n.Body = []byte{}
			noteHeld(t, n, true)
			n.Body = nil
			noteHeld(t, n, true)
		}
	}
}

// P6.1: of each Kind each number that it has, at its edges, those beside them, and far ones.
func TestEdges(t *testing.T) {
	for kind := range 9 {
		for _, base := range []api.Note{sample(kind).Note, least(kind).Note} {
			for _, f := range fields() {
				if !has(kind, f.letter) {
					continue
				}
				for _, v := range append(far(), f.least-1, f.least, f.most(kind), f.most(kind)+1) {
					n := base
					*f.of(&n) = v
					noteHeld(t, n, v >= f.least && v <= f.most(kind))
				}
			}
		}
	}
}

// P6.1: the edges once more, as the chapter's numbers, note by note.
func TestEdgesWrittenOut(t *testing.T) {
	for _, c := range []struct {
		n     api.Note
		right bool
	}{
		{api.Note{}, true},
		{api.Note{Kind: 9}, false},
		{api.Note{Kind: -1}, false},
		{api.Note{Kind: learn, Vlan: 0}, false},
		{api.Note{Kind: learn, Vlan: 1}, true},
		{api.Note{Kind: learn, Vlan: 4094, Port: 1000}, true},
		{api.Note{Kind: learn, Vlan: 4095}, false},
		{api.Note{Kind: learn, Vlan: 1, Port: 1001}, false},
		{api.Note{Kind: learn, Vlan: 1, Port: -1}, false},
		{api.Note{Kind: gone, Vlan: 0}, false},
		{api.Note{Kind: gone, Vlan: 1}, true},
		{api.Note{Kind: gone, Vlan: 4094}, true},
		{api.Note{Kind: gone, Vlan: 4095}, false},
		{api.Note{Kind: member, State: -1}, false},
		{api.Note{Kind: member}, true},
		{api.Note{Kind: member, State: 1, Port: 1000}, true},
		{api.Note{Kind: member, State: 2}, false},
		{api.Note{Kind: member, Port: 1001}, false},
		{api.Note{Kind: blocked, State: -1}, false},
		{api.Note{Kind: blocked}, true},
		{api.Note{Kind: blocked, State: 1, Port: 1000}, true},
		{api.Note{Kind: blocked, State: 2}, false},
		{api.Note{Kind: blocked, Port: 1001}, false},
		{api.Note{Kind: bpdu}, true},
		{api.Note{Kind: bpdu, Port: 1000, Body: make([]byte, 1600)}, true},
		{api.Note{Kind: bpdu, Body: make([]byte, 1601)}, false},
		{api.Note{Kind: bpdu, Port: 1001}, false},
		{api.Note{Kind: port, State: 2, Port: 1000}, true},
		{api.Note{Kind: port, State: 3}, false},
		{api.Note{Kind: port, State: -1}, false},
		{api.Note{Kind: port, Port: 1001}, false},
		{api.Note{Kind: bulk}, true},
		{api.Note{Kind: bulk, State: 1}, true},
		{api.Note{Kind: bulk, State: 2}, false},
		{api.Note{Kind: bulk, State: -1}, false},
		{api.Note{Kind: frame}, false},
		{api.Note{Kind: frame, Vlan: 1}, true},
		{api.Note{Kind: frame, Vlan: 4094, Port: 1000, State: 250, Body: make([]byte, 1600)}, true},
		{api.Note{Kind: frame, Vlan: 4095}, false},
		{api.Note{Kind: frame, Vlan: 1, Port: 1001}, false},
		{api.Note{Kind: frame, Vlan: 1, State: 251}, false},
		{api.Note{Kind: frame, Vlan: 1, State: -1}, false},
		{api.Note{Kind: frame, Vlan: 1, Body: make([]byte, 1601)}, false},
	} {
		noteHeld(t, c.n, c.right)
	}
}

// P6.1: each value that two bytes hold, of each number; right or wrong, handed to Encode and laid down for Decode.
func TestEachValue(t *testing.T) {
	for kind := range 9 {
		for at, of := range places(kind) {
			for v := range 65536 {
				if v > 255 && of.size == 1 {
					break
				}
				p, want := sample(kind), sampleBytes(kind)
				*of.number(&p.Note) = v
				if of.size == 1 {
					want[at] = byte(v)
				} else {
					want[at], want[at+1] = byte(v/256), byte(v%256)
				}
				right := v >= of.least && v <= of.most
				b, e := Encode(p)
				back, f := Decode(want)
				if right && (e != api.OK || f != api.OK || !bytes.Equal(b, want) || !same(back, p)) {
					t.Fatalf("%+v: Encode: % x, %d, Decode: %+v, %d", p, b, e, back, f)
				}
				if !right && (e != api.ErrArg || f != api.ErrForm || len(b) > 0 || !same(back, api.Packet{})) {
					t.Fatalf("%+v, that may not be: Encode: % x, %d, Decode: %+v, %d", p, b, e, back, f)
				}
			}
		}
	}
}

// place is where a number of a note stands.
type place struct {
	size, least, most int
	number            func(*api.Note) *int
}

func places(kind int) map[int]place {
	all := fields()
	vlan := place{2, 1, 4094, all[0].of}
	number := place{2, 0, 1000, all[1].of}
	state := place{1, 0, mostIn(kind), all[2].of}
	return []map[int]place{
		none:    {},
		learn:   {13: vlan, 21: number},
		gone:    {13: vlan},
		member:  {13: number, 15: state},
		blocked: {13: number, 15: state},
		bpdu:    {13: number},
		port:    {13: number, 15: state},
		bulk:    {13: state},
		frame:   {13: vlan, 15: number, 17: state},
	}[kind]
}

// P6.1: Epoch, Seq and Ack of each Kind, at their edges and far off, alone and two at once.
func TestOrders(t *testing.T) {
	for kind := range 9 {
		for i, of := range orders() {
			for _, v := range far() {
				p := sample(kind)
				*of(&p) = v
				held(t, p, v >= 0 && v <= last)
				for j, other := range orders() {
					for _, w := range []int{-1, 0, last, last + 1} {
						if i == j {
							continue
						}
						two := p
						*other(&two) = w
						held(t, two, v >= 0 && v <= last && w >= 0 && w <= last)
					}
				}
			}
		}
	}
}

// P6.1: the same three as bytes: 2^30 is right, one more is none.
func TestOrdersOfBytes(t *testing.T) {
	for kind := range 9 {
		for _, at := range []int{0, 4, 8} {
			for _, v := range []uint32{0, 1, 255, 256, 65535, 65536, 1 << 24, last - 1, last, last + 1, last + 256, 1<<31 - 1, 1 << 31, 1<<31 + 1, 3 << 30, 1<<32 - 1} {
				b := sampleBytes(kind)
				binary.BigEndian.PutUint32(b[at:], v)
				read(t, b)
				if _, e := Decode(b); (e == api.OK) != (v <= last) {
					t.Errorf("Decode(% x) answers %d", b, e)
				}
			}
		}
	}
}

// P6.1: a number out of bounds makes none beside a note that may be, and a note that may not be none beside right numbers.
func TestNoteAndNumbers(t *testing.T) {
	for kind := range 9 {
		good := sample(kind)
		bad := good
		bad.Note.Kind += 9
		held(t, good, true)
		held(t, bad, false)
		good.Seq, bad.Seq = last+1, last+1
		held(t, good, false)
		held(t, bad, false)
		if !Right(good.Note) {
			t.Errorf("Right(%+v) hangs on the packet", good.Note)
		}
	}
}

// P6.1: an address may be any.
func TestMacs(t *testing.T) {
	for _, kind := range []int{learn, gone} {
		for i := range 6 {
			for v := range 256 {
				p := sample(kind)
				p.Note.Mac[i] = byte(v)
				held(t, p, true)
				p = least(kind)
				p.Note.Mac[i] = byte(v)
				held(t, p, true)
			}
		}
		p := sample(kind)
		p.Note.Mac = api.Mac{255, 255, 255, 255, 255, 255}
		held(t, p, true)
		p.Note.Mac = api.Mac{}
		held(t, p, true)
	}
}

// bodyOf is one of so many bytes, that are not all the same.
func bodyOf(n int) []byte {
	b := make([]byte, n)
	for i := range b {
		b[i] = byte(i*7 + i/256)
	}
	return b
}

// P6.1 and R2: a Body of each number of bytes that it may have, nil and empty, and of more.
func TestBodies(t *testing.T) {
	for _, kind := range []int{bpdu, frame} {
		for n := range 1601 {
			p := sample(kind)
			p.Note.Body = bodyOf(n)
			held(t, p, true)
		}
		for _, n := range []int{1601, 1602, 2047, 2048, 4096, 65535, 65536, 65537, 65536 + 1600, 65536 + 1601, 1 << 20} {
			p := sample(kind)
			p.Note.Body = bodyOf(n)
			held(t, p, false)
			refused(t, bytesOf(p))
		}
		p, q := sample(kind), sample(kind)
		p.Note.Body, q.Note.Body = nil, []byte{}
		held(t, p, true)
		held(t, q, true)
		a, _ := Encode(p)
		b, _ := Encode(q)
		if !bytes.Equal(a, b) || len(a) != sizeOf(kind, 0) {
			t.Errorf("a Body that is nil: % x, that is empty: % x", a, b)
		}
	}
}

// P6.1: a number of bytes of Body that is not as many as there are.
func TestCountsOfBody(t *testing.T) {
	for _, kind := range []int{bpdu, frame} {
		for _, n := range []int{0, 1, 2, 255, 256, 257, 1599, 1600, 1601, 65535, 65536, 65537} {
			p := sample(kind)
			p.Note.Body = bodyOf(n)
			b := bytesOf(p)
			for _, count := range []int{0, 1, 2, 3, 254, 255, 256, 257, 258, 1598, 1599, 1600, 1601, 1602, 32768, 65534, 65535} {
				binary.BigEndian.PutUint16(b[bodyAt(kind):], uint16(count))
				read(t, b)
				if count != n || n > 1600 {
					refused(t, b)
				}
			}
		}
	}
}

// P6.1: of each Kind bytes fewer and more than it has, whatever lies behind them in memory.
func TestLengths(t *testing.T) {
	refused(t, nil)
	refused(t, []byte{})
	for kind := range 9 {
		for _, whole := range [][]byte{sampleBytes(kind), bytesOf(least(kind))} {
			for n := range whole {
				refused(t, whole[:n])
				refused(t, bytes.Clone(whole[:n]))
				read(t, whole[n+1:])
			}
			for n := 1; n < 50; n++ {
				refused(t, append(bytes.Clone(whole), make([]byte, n)...))
				refused(t, append(bytes.Clone(whole), bytes.Repeat([]byte{255}, n)...))
			}
			refused(t, append(bytes.Clone(whole), make([]byte, 1<<16)...))
			refused(t, append(bytes.Clone(whole), whole...))
			read(t, append([]byte{0}, whole...))
			room := append(bytes.Clone(whole), 1, 2, 3)
			read(t, room[:len(whole)])
			refused(t, room[:len(whole)-1])
			refused(t, room[:len(whole)+1])
		}
	}
	for n := range 100 {
		for _, v := range []byte{0, 1, 2, 8, 75, 255} {
			read(t, bytes.Repeat([]byte{v}, n))
		}
	}
}

// P6.1: each byte of each Kind at all its values: within bounds, and out of them.
func TestEachByte(t *testing.T) {
	for kind := range 9 {
		for _, whole := range [][]byte{sampleBytes(kind), bytesOf(least(kind))} {
			for at, was := range bytes.Clone(whole) {
				for v := range 256 {
					whole[at] = byte(v)
					read(t, whole)
				}
				whole[at] = was
			}
		}
	}
}

// aliveBytes are those of a keepalive, as chapter 6 has them.
func aliveBytes(epoch, prio int, primary bool) []byte {
	b := make([]byte, 8)
	b[0] = 75
	binary.BigEndian.PutUint32(b[1:], uint32(epoch))
	binary.BigEndian.PutUint16(b[5:], uint16(prio))
	if primary {
		b[7] = 1
	}
	return b
}

// aliveHeld holds Alive and Told to the document at one keepalive.
func aliveHeld(t *testing.T, epoch, prio int, primary, right bool) {
	t.Helper()
	b, e := Alive(epoch, prio, primary)
	if !right {
		if e != api.ErrArg || len(b) != 0 {
			t.Errorf("Alive(%d, %d, %v) = % x, %d, want none and ErrArg", epoch, prio, primary, b, e)
		}
		return
	}
	if want := aliveBytes(epoch, prio, primary); e != api.OK || !bytes.Equal(b, want) {
		t.Errorf("Alive(%d, %d, %v) = % x, %d, want % x", epoch, prio, primary, b, e, want)
	}
	if x, y, is, e := Told(b); x != epoch || y != prio || is != primary || e != api.OK {
		t.Errorf("Told(% x) = %d, %d, %v, %d", b, x, y, is, e)
	}
	refused(t, b)
}

// P6.2: bytes that are written out here, both ways.
func TestAliveBytes(t *testing.T) {
	for _, c := range []struct {
		epoch, prio int
		primary     bool
		b           []byte
	}{
		{0, 0, false, []byte{75, 0, 0, 0, 0, 0, 0, 0}},
		{0, 0, true, []byte{75, 0, 0, 0, 0, 0, 0, 1}},
		{5, 300, true, []byte{75, 0, 0, 0, 5, 1, 44, 1}},
		{0x11121314, 0x2122, false, []byte{75, 0x11, 0x12, 0x13, 0x14, 0x21, 0x22, 0}},
		{1073741824, 65535, true, []byte{75, 0x40, 0, 0, 0, 255, 255, 1}},
		{1073741823, 1, false, []byte{75, 0x3f, 255, 255, 255, 0, 1, 0}},
	} {
		if b, e := Alive(c.epoch, c.prio, c.primary); e != api.OK || !bytes.Equal(b, c.b) {
			t.Errorf("Alive(%d, %d, %v) = % x, %d, want % x", c.epoch, c.prio, c.primary, b, e, c.b)
		}
		if x, y, is, e := Told(c.b); x != c.epoch || y != c.prio || is != c.primary || e != api.OK {
			t.Errorf("Told(% x) = %d, %d, %v, %d", c.b, x, y, is, e)
		}
		aliveHeld(t, c.epoch, c.prio, c.primary, true)
	}
}

// P6.2: epoch and prio at their edges, beside them, and far off, both at once; primary and not.
func TestAliveEdges(t *testing.T) {
	for _, epoch := range far() {
		for _, prio := range far() {
			right := epoch >= 0 && epoch <= last && prio >= 0 && prio <= 65535
			aliveHeld(t, epoch, prio, true, right)
			aliveHeld(t, epoch, prio, false, right)
		}
	}
	for prio := range 65536 {
		aliveHeld(t, 7, prio, prio%3 == 0, true)
	}
}

// P6.2: each byte of a keepalive at all its values: the first one is 75 alone, the last one 0 or 1, the epoch within bounds.
func TestAliveEachByte(t *testing.T) {
	for _, base := range [][]byte{
		aliveBytes(0x11121314, 0x2122, true), aliveBytes(0, 0, false), aliveBytes(last, 65535, true), aliveBytes(last-1, 1, false),
	} {
		for at := range base {
			for v := range 256 {
				b := bytes.Clone(base)
				b[at] = byte(v)
				epoch, prio := int(binary.BigEndian.Uint32(b[1:])), int(binary.BigEndian.Uint16(b[5:]))
				if b[0] != 75 || b[7] > 1 || epoch > last {
					notTold(t, b)
				} else if x, y, is, e := Told(b); x != epoch || y != prio || is != (b[7] == 1) || e != api.OK {
					t.Errorf("Told(% x) = %d, %d, %v, %d", b, x, y, is, e)
				}
			}
		}
	}
}

// P6.2: two wrong bytes do not make a right one.
func TestAliveTwoBytes(t *testing.T) {
	for first := range 256 {
		for end := range 256 {
			b := aliveBytes(3, 4, false)
			b[0], b[7] = byte(first), byte(end)
			if _, _, _, e := Told(b); (e == api.OK) != (first == 75 && end < 2) {
				t.Errorf("Told(% x) answers %d", b, e)
			}
		}
	}
}

// P6.2: 8 bytes, and any other number of them, whatever lies behind them in memory.
func TestAliveLengths(t *testing.T) {
	notTold(t, nil)
	notTold(t, []byte{})
	for _, primary := range []bool{true, false} {
		whole := aliveBytes(0x11121314, 0x2122, primary)
		for n := range 8 {
			notTold(t, whole[:n])
			notTold(t, bytes.Clone(whole[:n]))
			notTold(t, whole[n+1:])
		}
		for n := 1; n < 50; n++ {
			notTold(t, append(bytes.Clone(whole), make([]byte, n)...))
			notTold(t, append(bytes.Clone(whole), bytes.Repeat([]byte{1}, n)...))
		}
		notTold(t, append(bytes.Clone(whole), make([]byte, 1<<16)...))
		notTold(t, append(bytes.Clone(whole), whole...))
		notTold(t, append([]byte{75}, whole...))
		room := append(bytes.Clone(whole), 0, 1)
		if _, _, is, e := Told(room[:8]); e != api.OK || is != primary {
			t.Errorf("8 bytes with others behind them: %v, %d", is, e)
		}
		notTold(t, room[:7])
		notTold(t, room[:9])
	}
	for n := range 30 {
		for _, v := range []byte{0, 1, 75, 255} {
			notTold(t, bytes.Repeat([]byte{v}, n))
		}
	}
}

// P6.3: a keepalive is no packet, a packet no keepalive, also where its first bytes are as a keepalive's.
func TestNoneIsBoth(t *testing.T) {
	for kind := range 9 {
		for _, p := range []api.Packet{sample(kind), least(kind)} {
			b := bytesOf(p)
			if len(b) < 13 {
				t.Errorf("a packet of %d bytes", len(b))
			}
			notTold(t, b)
			notTold(t, b[:8])
			copy(b, aliveBytes(1, 2, true))
			notTold(t, b)
			notTold(t, b[:13])
			b[0], b[7] = 0, 75
			read(t, b)
			notTold(t, b)
		}
	}
	for epoch := range 3000 {
		b, _ := Alive(epoch*350000, epoch*20, epoch%2 == 0)
		if len(b) != 8 {
			t.Errorf("a keepalive of %d bytes", len(b))
		}
		refused(t, b)
		refused(t, append(b, 0, 0, 0, 0, byte(epoch)))
	}
}

// chance makes packets, near the edges and off them, that are the same in each run.
func chance(r *rand.Rand) api.Packet {
	kind := r.IntN(9)
	p := api.Packet{Epoch: r.IntN(last + 1), Seq: r.IntN(last + 1), Ack: r.IntN(last + 1), Note: api.Note{Kind: kind}}
	for _, f := range fields() {
		if has(kind, f.letter) || r.IntN(20) == 0 {
			most := max(f.most(kind), 1)
			*f.of(&p.Note) = []int{f.least, most, f.least + r.IntN(most-f.least+1), f.least + r.IntN(most-f.least+1)}[r.IntN(4)]
		}
	}
	if has(kind, "M") || r.IntN(20) == 0 {
		for i := range 6 {
			p.Note.Mac[i] = byte(r.Uint32())
		}
	}
	if has(kind, "B") || r.IntN(20) == 0 {
		p.Note.Body = bodyOf([]int{0, 1, r.IntN(300), r.IntN(1601), 1600 + r.IntN(2)}[r.IntN(5)])
	}
	switch r.IntN(8) {
	case 0:
		*orders()[r.IntN(3)](&p) = []int{-1 - r.IntN(1<<20), last + 1 + r.IntN(1<<20), 0, last}[r.IntN(4)]
	case 1:
		f := fields()[r.IntN(3)]
		*f.of(&p.Note) = []int{-1 - r.IntN(1<<20), f.most(kind) + 1 + r.IntN(1<<20)}[r.IntN(2)]
	case 2:
		p.Note.Kind = r.IntN(300) - 20
	}
	return p
}

// P6.3 and P2: what was encoded is decoded as it was.
func TestInverseOfEncode(t *testing.T) {
	r := rand.New(rand.NewPCG(1, 2))
	right, wrong := map[int]int{}, 0
	for range 20000 {
		p := chance(r)
		held(t, p, mayBe(p))
		if mayBe(p) {
			right[p.Note.Kind]++
		} else {
			wrong++
		}
	}
	for kind := range 9 {
		if right[kind] < 500 || wrong < 2000 {
			t.Errorf("of 20000 may be: %v, may not: %d: too few of one kind", right, wrong)
		}
	}
}

// P6.3 and P2: what was decoded is encoded as it stood there.
func TestInverseOfDecode(t *testing.T) {
	r := rand.New(rand.NewPCG(3, 4))
	taken := 0
	for range 20000 {
		b := sampleBytes(r.IntN(9))
		for range r.IntN(3) {
			b[r.IntN(len(b))] = byte(r.Uint32())
		}
		read(t, b)
		if _, is := packetOf(b); is {
			taken++
		}
	}
	if taken < 5000 || taken > 17000 {
		t.Errorf("%d of 20000 were taken", taken)
	}
}

// P6.3: Alive and Told are one another's inverse.
func TestInverseOfAlive(t *testing.T) {
	r := rand.New(rand.NewPCG(5, 6))
	for range 20000 {
		epoch, prio := r.IntN(last+last/4), r.IntN(80000)
		aliveHeld(t, epoch, prio, r.IntN(2) == 0, epoch <= last && prio <= 65535)
		b := aliveBytes(r.IntN(last+last/4), r.IntN(65536), r.IntN(2) == 0)
		if r.IntN(3) == 0 {
			b[r.IntN(8)] = byte(r.Uint32())
		}
		epoch, prio, primary, e := Told(b)
		if e != api.OK {
			notTold(t, b)
			continue
		}
		if back, e := Alive(epoch, prio, primary); e != api.OK || !bytes.Equal(back, b) {
			t.Errorf("Alive(Told(% x)) = % x, %d", b, back, e)
		}
	}
}

// R3: what is handed in stays as it is, also behind its end in memory.
func TestHandedInStays(t *testing.T) {
	for kind := range 9 {
		p := sample(kind)
		body := append(bytes.Clone(p.Note.Body), 7, 7, 7)
		kept := bytes.Clone(body)
		p.Note.Body = body[:len(p.Note.Body)]
		Right(p.Note)
		b, _ := Encode(p)
		_ = append(b, 9, 9, 9)
		if !bytes.Equal(body, kept) {
			t.Errorf("Encode changed a Body: % x", body)
		}
		b = append(sampleBytes(kind), 7, 7, 7)
		kept = bytes.Clone(b)
		q, _ := Decode(b[:len(b)-3])
		q.Note.Body = append(q.Note.Body, 9, 9, 9)
		if !bytes.Equal(b, kept) {
			t.Errorf("Decode changed its bytes: % x", b)
		}
	}
	b := append(aliveBytes(1, 2, true), 7, 7)
	Told(b[:8])
	if !bytes.Equal(b, append(aliveBytes(1, 2, true), 7, 7)) {
		t.Errorf("Told changed its bytes: % x", b)
	}
}

// R3: bytes and a Body that are changed behind the call change nothing else.
func TestSharesNothing(t *testing.T) {
	for kind := range 9 {
		p := sample(kind)
		b, _ := Encode(p)
		clear(p.Note.Body)
		if !bytes.Equal(b, sampleBytes(kind)) {
			t.Errorf("what is encoded changes with the Body: % x", b)
		}
		p, _ = Decode(b)
		q, _ := Decode(b)
		clear(b)
		if !same(p, sample(kind)) {
			t.Errorf("what is decoded changes with the bytes: %+v", p)
		}
		for i := range p.Note.Body {
			p.Note.Body[i] = ^p.Note.Body[i]
		}
		if !same(q, sample(kind)) || !bytes.Equal(b, make([]byte, len(b))) {
			t.Errorf("two calls share a Body, or one with the bytes: %+v, % x", q, b)
		}
	}
}

// R3 and R4: bytes told twice are not the same memory, and nothing is kept.
func TestKeepsNothing(t *testing.T) {
	for kind := range 9 {
		one, _ := Encode(sample(kind))
		other, _ := Encode(sample(kind))
		for i := range one {
			one[i] = ^one[i]
		}
		_ = append(one, 9, 9)
		if !bytes.Equal(other, sampleBytes(kind)) {
			t.Errorf("two calls share their bytes: % x", other)
		}
		refused(t, one)
		held(t, sample(kind), true)
	}
	one, _ := Alive(1, 2, true)
	other, _ := Alive(1, 2, true)
	for i := range one {
		one[i] = ^one[i]
	}
	if !bytes.Equal(other, aliveBytes(1, 2, true)) {
		t.Errorf("two calls share their bytes: % x", other)
	}
	aliveHeld(t, 1, 2, true, true)
}

// P1 and P6.3: no bytes make Decode panic, and what it takes is encoded as it stood there.
func FuzzDecode(f *testing.F) {
	f.Add([]byte{})
	f.Add(aliveBytes(1, 2, true))
	for kind := range 9 {
		whole := sampleBytes(kind)
		f.Add(whole)
		f.Add(whole[:len(whole)-1])
		f.Add(append(bytes.Clone(whole), 0))
		f.Add(bytesOf(least(kind)))
	}
	f.Fuzz(func(t *testing.T, b []byte) {
		read(t, b)
		if _, e := Decode(b); e == api.OK {
			notTold(t, b)
		}
	})
}

// P1 and P6.3: no bytes make Told panic, and what it takes is Alive's as it stood there.
func FuzzTold(f *testing.F) {
	f.Add([]byte{})
	f.Add(aliveBytes(1, 2, true))
	f.Add(aliveBytes(last, 65535, false))
	f.Add(append(aliveBytes(last, 65535, false), 0))
	f.Add(sampleBytes(none))
	f.Fuzz(func(t *testing.T, b []byte) {
		epoch, prio, primary, e := Told(b)
		if e != api.OK {
			notTold(t, b)
			return
		}
		aliveHeld(t, epoch, prio, primary, true)
		if !bytes.Equal(aliveBytes(epoch, prio, primary), b) {
			t.Errorf("Told(% x) = %d, %d, %v", b, epoch, prio, primary)
		}
	})
}
