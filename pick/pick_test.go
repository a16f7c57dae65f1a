package pick

import (
	"bytes"
	"encoding/binary"
	"go/parser"
	"go/token"
	"math"
	"math/big"
	"math/rand/v2"
	"path/filepath"
	"slices"
	"strings"
	"sync"
	"testing"

	"gemel/api"
)

// greatestHash is the greatest one.
const greatestHash = math.MaxUint32

// modulo is n modulo 2^bits, never below 0.
func modulo(n int, bits uint) uint64 {
	whole := new(big.Int).Lsh(big.NewInt(1), bits)
	return new(big.Int).Mod(big.NewInt(int64(n)), whole).Uint64()
}

// stepped is the document's step in numbers that have room for all of it.
func stepped(n uint64, b uint64) uint64 { return (n ^ b) * 16777619 % (1 << 32) }

// wantHash is the document's words told in another way than the program's: over the bytes of a talk in one row.
func wantHash(f api.Frame) uint32 {
	vlan := modulo(f.Vlan, 16)
	row := append(slices.Concat(f.Dst[:], f.Src[:]), byte(vlan/256), byte(vlan%256))
	n := uint64(2166136261)
	for _, b := range row {
		n = stepped(n, uint64(b))
	}
	return uint32(n)
}

// wantWeigh does so for Weigh.
func wantWeigh(hash uint32, member int) uint32 {
	n, left := uint64(hash), modulo(member, 32)
	for i := range 4 {
		n = stepped(n, left/[]uint64{1, 1 << 8, 1 << 16, 1 << 24}[i]%256)
	}
	n = (n ^ n/32768) * 739982445 % (1 << 32)
	return uint32(n ^ n/4096)
}

// wantChoose does so for Choose: the least of all that no other one outweighs.
func wantChoose(members []int, hash uint32) (int, bool) {
	for _, m := range slices.Sorted(slices.Values(members)) {
		w := wantWeigh(hash, m)
		if !slices.ContainsFunc(members, func(o int) bool { return wantWeigh(hash, o) > w }) {
			return m, true
		}
	}
	return 0, false
}

// hashes holds that a frame has the hash that it must.
func hashes(t testing.TB, f api.Frame) uint32 {
	t.Helper()
	hash, want := Hash(f), wantHash(f)
	if hash != want {
		t.Fatalf("Hash(%v): %d, must be %d", f, hash, want)
	}
	return hash
}

// weighs does so for Weigh.
func weighs(t testing.TB, hash uint32, member int) uint32 {
	t.Helper()
	w, want := Weigh(hash, member), wantWeigh(hash, member)
	if w != want {
		t.Fatalf("Weigh(%d, %d): %d, must be %d", hash, member, w, want)
	}
	return w
}

// chooses does so for Choose.
func chooses(t testing.TB, members []int, hash uint32) (int, bool) {
	t.Helper()
	m, is := Choose(members, hash)
	if want, wantIs := wantChoose(members, hash); m != want || is != wantIs {
		t.Fatalf("Choose(%v, %d): %d, %t, must be %d, %t", members, hash, m, is, want, wantIs)
	}
	return m, is
}

// far are numbers at edges, and such as may be no number of a VLAN or a port.
func far() []int {
	return []int{
		0, 1, 2, 127, 128, 255, 256, 257, 4094, 4095, 4096, 65535, 65536, 65537, 1 << 24, 1<<24 - 1,
		1<<31 - 1, 1 << 31, 1<<32 - 1, 1 << 32, 1<<32 + 1, 1 << 40, math.MaxInt - 1, math.MaxInt,
		-1, -2, -255, -256, -257, -65535, -65536, -65537, -1 << 31, -1<<31 - 1, -1 << 32, math.MinInt, math.MinInt + 1,
	}
}

// someHashes are the hashes at the edges, and some others.
func someHashes() []uint32 {
	l := []uint32{0, 1, 2, 255, 256, 1<<12 - 1, 1 << 12, 1 << 15, 1<<15 - 1, 1 << 31, 1<<31 - 1, 2166136261, 16777619, greatestHash - 1, greatestHash}
	r := rand.New(rand.NewPCG(11, 1))
	for range 50 {
		l = append(l, r.Uint32())
	}
	return l
}

// talk is a frame whose bytes all differ.
func talk() api.Frame {
	return api.Frame{Dst: api.Mac{1, 2, 3, 4, 5, 6}, Src: api.Mac{7, 8, 9, 10, 11, 12}, Tagged: true, Vlan: 0x0d0e, Prio: 3, Type: 0x800, Body: []byte("talk")}
}

// same are numbers that weigh the same for the hash 0, though they aren't alike modulo 2^32.
func same() [][2]int {
	return [][2]int{{-855862, 6466}, {-855404, 6924}, {-854535, 7281}, {-854077, 7739}}
}

// orders are all orders of some numbers.
func orders(l []int) [][]int {
	if len(l) == 0 {
		return [][]int{nil}
	}
	var all [][]int
	for i, first := range l {
		rest := slices.Delete(slices.Clone(l), i, i+1)
		for _, o := range orders(rest) {
			all = append(all, append([]int{first}, o...))
		}
	}
	return all
}

// P11.1: hashes that were reckoned apart from the program: of the zero frame, of others, and of numbers that are no VLAN.
func TestHash(t *testing.T) {
	all := api.Mac{255, 255, 255, 255, 255, 255}
	for _, c := range []struct {
		dst, src api.Mac
		vlan     int
		want     uint32
	}{
		{api.Mac{}, api.Mac{}, 0, 892911165},
		{api.Mac{}, api.Mac{}, 1, 876133546},
		{api.Mac{}, api.Mac{}, 256, 255214548},
		{api.Mac{1}, api.Mac{2}, 0, 394796646},
		{talk().Dst, talk().Src, talk().Vlan, 2025043250},
		{talk().Src, talk().Dst, talk().Vlan, 3843944590},
		{all, all, 4094, 3459710372},
		{all, all, -1, 3453242951},
		{api.Mac{1, 128, 194, 0, 0, 14}, api.Mac{2, 0, 0, 0, 0, 9}, 10, 334637339},
	} {
		f := api.Frame{Dst: c.dst, Src: c.src, Vlan: c.vlan}
		if hash := hashes(t, f); hash != c.want {
			t.Errorf("Hash(%v): %d, must be %d", f, hash, c.want)
		}
	}
	if Hash(api.Frame{}) != 892911165 {
		t.Error("the zero frame")
	}
}

// P11.1: frames that are alike but for one byte of Dst, of Src or of Vlan have different hashes, whichever byte.
func TestHashOfEachByte(t *testing.T) {
	for _, first := range []api.Frame{{}, talk()} {
		for place := range 14 {
			seen := map[uint32]int{}
			for value := range 256 {
				f := first
				switch {
				case place < 6:
					f.Dst[place] = byte(value)
				case place < 12:
					f.Src[place-6] = byte(value)
				case place == 12:
					f.Vlan = f.Vlan&0xff | value<<8
				default:
					f.Vlan = f.Vlan&0xff00 | value
				}
				hash := hashes(t, f)
				if other, is := seen[hash]; is {
					t.Fatalf("at the byte %d, %d and %d have one hash", place, other, value)
				}
				seen[hash] = value
			}
		}
	}
}

// P11.1: a byte counts at its place: Dst ahead of Src, and all of both ahead of Vlan.
func TestHashOfPlaces(t *testing.T) {
	seen := map[uint32]int{}
	for place := range 12 {
		for value := range 255 {
			var f api.Frame
			if place < 6 {
				f.Dst[place] = byte(value + 1)
			} else {
				f.Src[place-6] = byte(value + 1)
			}
			hash := hashes(t, f)
			if other, is := seen[hash]; is {
				t.Fatalf("a byte at %d and one at %d have one hash", other, place)
			}
			seen[hash] = place
		}
	}
	f, g := talk(), talk()
	g.Dst, g.Src = f.Src, f.Dst
	if hashes(t, f) == hashes(t, g) {
		t.Error("Dst and Src, the other way round, have one hash")
	}
}

// P11.1: Vlan is taken modulo 65536, and counts with two bytes, of which the higher one is first.
func TestHashOfVlan(t *testing.T) {
	for _, first := range []api.Frame{{}, talk()} {
		hash := map[int]uint32{}
		for _, vlan := range far() {
			f := first
			f.Vlan = vlan
			hash[vlan] = hashes(t, f)
		}
		for _, c := range [][2]int{
			{0, 65536}, {1, 65537}, {0, -65536}, {65535, -1}, {1, -65535}, {65535, math.MaxInt}, {0, math.MinInt},
			{65535, -65537}, {1, math.MinInt + 1}, {0, 1 << 40}, {65535, 1<<32 - 1}, {0, 1 << 32},
		} {
			if hash[c[0]] != hash[c[1]] {
				t.Errorf("of %d and %d: %d and %d", c[0], c[1], hash[c[0]], hash[c[1]])
			}
		}
		for _, c := range [][2]int{{0, 1}, {0, 255}, {255, 256}, {0, 256}, {1, 256}, {1, 257}, {0, 4094}, {65535, 65536}, {255, -1}, {255, 65535}} {
			if hash[c[0]] == hash[c[1]] {
				t.Errorf("of %d and %d: %d", c[0], c[1], hash[c[0]])
			}
		}
	}
	for _, c := range [][2]int{{0x0102, 0x0201}, {0x0100, 0x0001}, {0x0ffe, 0xfe0f}} {
		f, g := api.Frame{Vlan: c[0]}, api.Frame{Vlan: c[1]}
		if hashes(t, f) == hashes(t, g) {
			t.Errorf("%d and %d have one hash", c[0], c[1])
		}
	}
	// The end of a hash is a step by the higher byte and then one by the lower one.
	n := uint64(2166136261)
	for _, b := range []uint64{0, 0, 0, 0, 0, 0, 0, 0, 0, 0, 0, 0, 0x01, 0x02} {
		n = stepped(n, b)
	}
	if hash := Hash(api.Frame{Vlan: 0x0102}); hash != uint32(n) {
		t.Errorf("of the VLAN 0x0102: %d, must be %d", hash, n)
	}
}

// P11.1, P11.3, P3: frames of one talk have one hash and go over one link, whatever their tag, Prio, Type and Body.
func TestOneTalk(t *testing.T) {
	for _, first := range []api.Frame{{}, talk(), {Vlan: math.MinInt}} {
		hash := hashes(t, first)
		link, _ := chooses(t, []int{4, 1, 3, 2}, hash)
		alike := func(change func(f *api.Frame)) {
			t.Helper()
			f := first
			change(&f)
			if h := Hash(f); h != hash {
				t.Errorf("Hash(%v): %d, that of %v: %d", f, h, first, hash)
			}
			if m, _ := Choose([]int{1, 2, 3, 4}, Hash(f)); m != link {
				t.Errorf("%v goes over %d, %v over %d", f, m, first, link)
			}
		}
		alike(func(f *api.Frame) { f.Tagged = !f.Tagged })
		for _, n := range far() {
			alike(func(f *api.Frame) { f.Prio = n })
			alike(func(f *api.Frame) { f.Type = n })
		}
		for _, b := range [][]byte{nil, {}, {0}, {255}, []byte("other"), make([]byte, 1500), make([]byte, 1501)} {
			alike(func(f *api.Frame) { f.Body = b })
		}
		alike(func(f *api.Frame) { f.Tagged, f.Prio, f.Type, f.Body = !f.Tagged, 7, 0x86dd, []byte{1} })
	}
}

// P11.1: of many frames.
func TestHashOfMany(t *testing.T) {
	r := rand.New(rand.NewPCG(11, 2))
	for range 20000 {
		var f api.Frame
		for i := range 6 {
			f.Dst[i], f.Src[i] = byte(r.Uint32()), byte(r.Uint32())
		}
		f.Vlan = int(r.Uint64()) >> r.IntN(64)
		hashes(t, f)
	}
}

// P11.2: weights that were reckoned apart from the program, of the members and hashes at the edges.
func TestWeigh(t *testing.T) {
	for _, c := range []struct {
		hash   uint32
		member int
		want   uint32
	}{
		{0, 0, 0},
		{0, 1, 4043898475},
		{0, 2, 3791781079},
		{0, 255, 559904468},
		{0, 256, 2965658619},
		{0, 65536, 758344562},
		{0, 1 << 24, 307878936},
		{0, 0x01020304, 1190969466},
		{0, -1, 2179080187},
		{0, 1 << 31, 1486720621},
		{0, math.MinInt, 0},
		{0, math.MaxInt, 2179080187},
		{1, 0, 4043898475},
		{1, 1, 0},
		{1, 2, 1552290959},
		{1, -1, 391667796},
		{2166136261, 0, 908607187},
		{2166136261, 1, 1162259364},
		{2166136261, 0x01020304, 441511026},
		{2166136261, math.MinInt, 908607187},
		{2166136261, math.MaxInt, 2214108371},
		{greatestHash, 0, 1721554947},
		{greatestHash, 1, 1915600148},
		{greatestHash, 0x01020304, 3664991497},
		{greatestHash, -1, 55530569},
		{greatestHash, 1 << 31, 1099640561},
		{greatestHash, math.MinInt, 1721554947},
		{greatestHash, math.MaxInt, 55530569},
	} {
		if w := weighs(t, c.hash, c.member); w != c.want {
			t.Errorf("Weigh(%d, %d): %d, must be %d", c.hash, c.member, w, c.want)
		}
	}
}

// P11.2: members at the edges and many others, for hashes at the edges and many others.
func TestWeighOfMany(t *testing.T) {
	r := rand.New(rand.NewPCG(11, 3))
	for _, hash := range someHashes() {
		for _, m := range far() {
			weighs(t, hash, m)
		}
		for m := range 300 {
			weighs(t, hash, m)
		}
		for range 300 {
			weighs(t, hash, int(r.Uint64())>>r.IntN(64))
		}
	}
}

// P11.2: members that are alike modulo 2^32 weigh the same, those that differ in one byte of the four do not.
func TestWeighModulo(t *testing.T) {
	for _, hash := range someHashes() {
		for _, m := range []int{0, 1, 64, 255, 1 << 31, 1<<32 - 1, -1, -1 << 31} {
			w := weighs(t, hash, m)
			for _, off := range []int{1 << 32, -1 << 32, 5 << 32, 1 << 40, math.MinInt} {
				if o := weighs(t, hash, m+off); o != w {
					t.Errorf("Weigh(%d, %d): %d, of %d: %d", hash, m, w, m+off, o)
				}
			}
			for place := range 4 {
				for x := 1; x < 256; x++ {
					if o := weighs(t, hash, m^x<<(8*place)); o == w {
						t.Errorf("for %d, %d and %d weigh the same", hash, m, m^x<<(8*place))
					}
				}
			}
		}
	}
}

// P11.2: the lowest byte of a member is first.
func TestWeighOrder(t *testing.T) {
	for _, hash := range someHashes() {
		n := uint64(hash)
		for _, b := range []uint64{0x04, 0x03, 0x02, 0x01} {
			n = stepped(n, b)
		}
		n = (n ^ n>>15) * 739982445 & 0xffffffff
		n ^= n >> 12
		if w := Weigh(hash, 0x01020304); w != uint32(n) {
			t.Errorf("Weigh(%d, 0x01020304): %d, must be %d", hash, w, n)
		}
	}
}

// P11.2: choices that were reckoned apart from the program.
func TestChoose(t *testing.T) {
	for hash, want := range []int{1, 3, 3, 2, 3, 4, 4, 3} {
		for _, members := range orders([]int{1, 2, 3, 4}) {
			if m, is := chooses(t, members, uint32(hash)); m != want || !is {
				t.Errorf("Choose(%v, %d): %d, %t, must be %d", members, hash, m, is, want)
			}
		}
	}
}

// P11.2, R2: of no member, nil or empty, there is none; beside false it is 0.
func TestChooseOfNone(t *testing.T) {
	for _, hash := range someHashes() {
		for _, members := range [][]int{nil, {}, make([]int, 0, 4), []int{7, 8}[:0]} {
			if m, is := Choose(members, hash); m != 0 || is {
				t.Errorf("Choose(%v, %d): %d, %t", members, hash, m, is)
			}
		}
	}
}

// P11.2: of one member it is that one, whichever and however often it stands there.
func TestChooseOfOne(t *testing.T) {
	for _, hash := range someHashes() {
		for _, n := range far() {
			for _, members := range [][]int{{n}, {n, n}, {n, n, n}} {
				if m, is := chooses(t, members, hash); m != n || !is {
					t.Errorf("Choose(%v, %d): %d, %t", members, hash, m, is)
				}
			}
		}
	}
}

// P11.2: it is one that outweighs all others, wherever it stands.
func TestChooseTheGreatest(t *testing.T) {
	l := []int{-3, 0, 5, 6, 70000, math.MaxInt, math.MinInt + 9}
	for _, hash := range someHashes() {
		best, _ := chooses(t, l, hash)
		for _, n := range l {
			if n != best && Weigh(hash, n) >= Weigh(hash, best) {
				t.Errorf("for %d, %d was chosen, and %d weighs no less", hash, best, n)
			}
		}
		rest := slices.DeleteFunc(slices.Clone(l), func(n int) bool { return n == best })
		for place := range len(l) {
			if m, _ := chooses(t, slices.Insert(slices.Clone(rest), place, best), hash); m != best {
				t.Errorf("for %d, %d was chosen, and with it at the place %d %d", hash, best, place, m)
			}
		}
	}
}

// P11.2, P11.3: members of whom some stand twice are chosen from as those that stand once.
func TestChooseOfTwice(t *testing.T) {
	for _, hash := range someHashes() {
		once, _ := chooses(t, []int{1, 2, 3}, hash)
		for _, members := range [][]int{{1, 1, 2, 3}, {1, 2, 3, 3}, {3, 2, 1, 1, 2, 3}, {2, 2, 2, 1, 3, 2}, {1, 2, 3, 1, 2, 3}} {
			if m, is := chooses(t, members, hash); m != once || !is {
				t.Errorf("Choose(%v, %d): %d, %t, of each once: %d", members, hash, m, is, once)
			}
		}
	}
}

// P11.2: of members that weigh the same, as they are alike modulo 2^32, it is the least one, whichever stands first.
func TestChooseTheLeast(t *testing.T) {
	for _, hash := range someHashes() {
		for _, n := range []int{0, 1, 64, 1 << 31, 1<<32 - 1} {
			for _, members := range orders([]int{n, n + 1<<32, n + 3<<32, n - 1<<32}) {
				if m, is := chooses(t, members, hash); m != n-1<<32 || !is {
					t.Errorf("Choose(%v, %d): %d, %t", members, hash, m, is)
				}
			}
		}
		for _, c := range []struct{ a, b, want int }{
			{5, 5 + 1<<32, 5},
			{-1, 1<<32 - 1, -1},
			{math.MaxInt, -1, -1},
			{math.MinInt, 0, math.MinInt},
			{math.MinInt + 1, 1, math.MinInt + 1},
		} {
			for _, members := range orders([]int{c.a, c.b, c.a}) {
				if m, is := chooses(t, members, hash); m != c.want || !is {
					t.Errorf("Choose(%v, %d): %d, %t, must be %d", members, hash, m, is, c.want)
				}
			}
		}
	}
}

// P11.2: and so of members that weigh the same though they aren't alike modulo 2^32.
func TestChooseTheLeastOfOthers(t *testing.T) {
	for _, c := range same() {
		if a, b := weighs(t, 0, c[0]), weighs(t, 0, c[1]); a != b {
			t.Fatalf("%d weighs %d, %d weighs %d", c[0], a, c[1], b)
		}
		for _, members := range orders([]int{c[0], c[1], c[1] + 1<<32}) {
			if m, is := chooses(t, members, 0); m != c[0] || !is {
				t.Errorf("Choose(%v, 0): %d, %t", members, m, is)
			}
		}
		// One that weighs less changes nothing, one that weighs more is chosen, though it is greater.
		for n := range 200 {
			m, _ := chooses(t, []int{c[1], n, c[0]}, 0)
			if want := Weigh(0, n) > Weigh(0, c[0]); (m == n) != want {
				t.Errorf("beside %v, %d: %d", c, n, m)
			}
		}
	}
}

// P11.2, P11.3: members of numbers below 0.
func TestChooseBelowZero(t *testing.T) {
	seen := map[int]int{}
	for hash := range uint32(1000) {
		for _, members := range [][]int{{-1}, {-1, -2, -3}, {-3, -1, -2}, {math.MinInt, -1, 0, 1}} {
			m, is := chooses(t, members, hash)
			if !is || !slices.Contains(members, m) {
				t.Errorf("Choose(%v, %d): %d, %t", members, hash, m, is)
			}
		}
		m, _ := Choose([]int{-1, -2, -3}, hash)
		seen[m]++
	}
	if len(seen) != 3 {
		t.Errorf("of -1, -2 and -3 these were chosen: %v", seen)
	}
}

// someMembers is a list of up to so many members, some of whom stand twice or weigh the same.
func someMembers(r *rand.Rand, most int) []int {
	l := make([]int, 0, most)
	for range 1 + r.IntN(most) {
		switch k := r.IntN(10); {
		case k == 0 && len(l) > 0:
			l = append(l, l[r.IntN(len(l))])
		case k == 1 && len(l) > 0:
			l = append(l, l[r.IntN(len(l))]+(r.IntN(7)-3)<<32)
		case k == 2:
			l = append(l, int(r.Uint64()))
		case k == 3:
			l = append(l, -r.IntN(100))
		default:
			l = append(l, 1+r.IntN(api.MaxPort))
		}
	}
	return l
}

// P11.3: it is one of the members, whatever order they stand in.
func TestTheorem(t *testing.T) {
	r := rand.New(rand.NewPCG(11, 4))
	for range 3000 {
		hash, l := r.Uint32(), someMembers(r, 12)
		first, is := chooses(t, l, hash)
		if !is || !slices.Contains(l, first) {
			t.Fatalf("Choose(%v, %d): %d, %t", l, hash, first, is)
		}
		for range 5 {
			r.Shuffle(len(l), func(i, j int) { l[i], l[j] = l[j], l[i] })
			if m, _ := Choose(l, hash); m != first {
				t.Fatalf("Choose(%v, %d): %d, in another order: %d", l, hash, m, first)
			}
		}
		slices.Sort(l)
		chooses(t, l, hash)
		slices.Reverse(l)
		chooses(t, l, hash)
	}
}

// P11.3: where another one goes, the choice stays, and where the chosen one goes, it is one of the others.
func TestOneGoes(t *testing.T) {
	r := rand.New(rand.NewPCG(11, 5))
	for range 1500 {
		hash, l := r.Uint32(), someMembers(r, 10)
		first, _ := Choose(l, hash)
		for _, gone := range l {
			rest := slices.DeleteFunc(slices.Clone(l), func(n int) bool { return n == gone })
			m, is := chooses(t, rest, hash)
			switch {
			case is != (len(rest) > 0):
				t.Fatalf("Choose(%v, %d): %t", rest, hash, is)
			case gone != first && m != first:
				t.Fatalf("Choose(%v, %d): %d, with %d: %d", rest, hash, m, gone, first)
			case gone == first && is && (m == first || !slices.Contains(rest, m)):
				t.Fatalf("Choose(%v, %d): %d, with %d: %d", rest, hash, m, gone, first)
			}
		}
	}
}

// P11.3: where one comes whose Weigh is less, the choice stays; where its Weigh is greater, it is that one.
func TestOneComes(t *testing.T) {
	r := rand.New(rand.NewPCG(11, 6))
	came := map[bool]int{}
	for range 3000 {
		hash, l := r.Uint32(), someMembers(r, 6)
		first, _ := Choose(l, hash)
		n := r.IntN(1000) - 200
		if Weigh(hash, n) == Weigh(hash, first) {
			continue
		}
		greater := Weigh(hash, n) > Weigh(hash, first)
		came[greater]++
		for place := range len(l) + 1 {
			m, is := chooses(t, slices.Insert(slices.Clone(l), place, n), hash)
			if want := map[bool]int{false: first, true: n}[greater]; m != want || !is {
				t.Fatalf("to %v came %d, and of %d it is %d, %t, must be %d", l, n, hash, m, is, want)
			}
		}
	}
	if came[false] < 100 || came[true] < 100 {
		t.Errorf("too few of a kind came: %v", came)
	}
}

// P11.3: the members that go and come, one at a time, move the talks of themselves alone.
func TestTalksStay(t *testing.T) {
	var before, after [2000]int
	all := []int{1, 2, 3, 4, 5, 6, 7, 8}
	for i := range before {
		before[i], _ = Choose(all, uint32(i)*2654435761)
	}
	for _, gone := range all {
		rest := slices.DeleteFunc(slices.Clone(all), func(n int) bool { return n == gone })
		moved := 0
		for i := range after {
			after[i], _ = Choose(rest, uint32(i)*2654435761)
			if after[i] != before[i] {
				moved++
				if before[i] != gone || after[i] == gone {
					t.Fatalf("%d went, and %d went over from %d to %d", gone, i, before[i], after[i])
				}
			}
		}
		if moved == 0 {
			t.Errorf("nothing went over %d", gone)
		}
	}
}

// P1: a long list of members, and one of numbers far off.
func TestChooseOfMany(t *testing.T) {
	l := make([]int, 100000)
	for i := range l {
		l[i] = i - 1000
	}
	for _, hash := range []uint32{0, 1, greatestHash} {
		m, is := Choose(l, hash)
		if !is || m < -1000 || m >= 99000 {
			t.Fatalf("Choose: %d, %t", m, is)
		}
		for _, n := range l {
			if a, b := Weigh(hash, n), Weigh(hash, m); a > b || a == b && n < m {
				t.Fatalf("for %d, %d was chosen, and %d is ahead of it", hash, m, n)
			}
		}
		chooses(t, far(), hash)
	}
}

// R3: Choose leaves the list as it was, and what is behind it.
func TestChooseLeavesTheList(t *testing.T) {
	for _, hash := range someHashes() {
		whole := []int{9, 3, 3 + 1<<32, -1, 7, 3, 1, 100, 101}
		was := slices.Clone(whole)
		chooses(t, whole[:7], hash)
		chooses(t, whole[2:6:6], hash)
		chooses(t, whole[:0], hash)
		if !slices.Equal(whole, was) {
			t.Fatalf("%v was handed in, and is %v", was, whole)
		}
	}
}

// R3: Hash leaves the frame and its Body as they were.
func TestHashLeavesTheFrame(t *testing.T) {
	f := talk()
	whole := []byte("the body and what is behind it")
	f.Body = whole[:8]
	g := f
	hashes(t, f)
	if string(whole) != "the body and what is behind it" || !bytes.Equal(f.Body, whole[:8]) {
		t.Errorf("the body is %q", whole)
	}
	f.Body, g.Body = nil, nil
	if f.Dst != g.Dst || f.Src != g.Src || f.Tagged != g.Tagged || f.Vlan != g.Vlan || f.Prio != g.Prio || f.Type != g.Type {
		t.Errorf("%v was handed in, and is %v", g, f)
	}
}

// R4: what is answered hangs on nothing that was asked ahead of it, or is asked at the same time.
func TestNothingIsKept(t *testing.T) {
	l := []int{4, 8, 15, 16, 23, 42}
	hash := Hash(talk())
	weight := Weigh(hash, 15)
	link, _ := Choose(l, hash)
	var all sync.WaitGroup
	for seed := range uint64(4) {
		all.Go(func() {
			r := rand.New(rand.NewPCG(11, seed))
			for range 2000 {
				Hash(api.Frame{Vlan: r.Int()})
				Weigh(r.Uint32(), r.Int())
				Choose(someMembers(r, 5), r.Uint32())
				m, is := Choose(l, hash)
				if Hash(talk()) != hash || Weigh(hash, 15) != weight || m != link || !is {
					t.Error("it is another answer than at first")
					return
				}
			}
		})
	}
	all.Wait()
}

// R6: the package calls api alone.
func TestCalls(t *testing.T) {
	files, _ := filepath.Glob("*.go")
	for _, name := range files {
		if strings.HasSuffix(name, "_test.go") {
			continue
		}
		f, e := parser.ParseFile(token.NewFileSet(), name, nil, parser.ImportsOnly)
		if e != nil {
			t.Fatal(e)
		}
		for _, i := range f.Imports {
			if strings.HasPrefix(i.Path.Value, `"gemel/`) && i.Path.Value != `"gemel/api"` {
				t.Errorf("%s imports %s", name, i.Path.Value)
			}
		}
	}
}

// The chapter's examples.
func TestExamples(t *testing.T) {
	if m, is := Choose([]int{5}, 9); m != 5 || !is {
		t.Errorf("of one member: %d, %t", m, is)
	}
	if m, is := Choose(nil, 9); m != 0 || is {
		t.Errorf("of nothing: %d, %t", m, is)
	}
}

// FuzzPick: whatever is asked, nothing panics, and it is answered as the document's words say.
func FuzzPick(f *testing.F) {
	f.Add([]byte("abcdefghijkl"), 10, uint32(0), []byte{1, 0, 0, 0, 0, 0, 0, 0, 2, 0, 0, 0, 0, 0, 0, 0})
	f.Add([]byte{}, math.MinInt, uint32(greatestHash), []byte{1, 2, 3, 3, 0})
	f.Fuzz(func(t *testing.T, macs []byte, vlan int, hash uint32, b []byte) {
		x := api.Frame{Vlan: vlan, Body: b}
		copy(x.Src[:], macs[copy(x.Dst[:], macs):])
		hash ^= hashes(t, x)
		b = b[:min(len(b), 300)]
		var members []int
		for len(b) >= 8 {
			members = append(members, int(binary.LittleEndian.Uint64(b)))
			b = b[8:]
		}
		for _, y := range b {
			members = append(members, int(y%8))
		}
		was := slices.Clone(members)
		for _, m := range members {
			weighs(t, hash, m)
		}
		first, _ := chooses(t, members, hash)
		if !slices.Equal(members, was) {
			t.Fatalf("%v was handed in, and is %v", was, members)
		}
		slices.Reverse(members)
		if m, _ := chooses(t, members, hash); m != first {
			t.Fatalf("Choose(%v, %d): %d, the other way round: %d", members, hash, m, first)
		}
	})
}
