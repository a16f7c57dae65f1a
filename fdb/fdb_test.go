package fdb

import (
	"fmt"
	"go/parser"
	"go/token"
	"math"
	"math/rand/v2"
	"path/filepath"
	"slices"
	"sort"
	"strings"
	"testing"

	"gemel/api"
)

// The errors, and what learning has come to, as numbers.
const (
	ok      = 0
	errArg  = 1
	errFull = 3

	same  = 0
	fresh = 1
	moved = 2

	maxTime = 1 << 40
)

// station is what an entry is of.
type station struct {
	vlan int
	mac  api.Mac
}

// model is the document's words told in another way than the program's: a map, sorted by texts where it is told.
type model struct {
	room    int
	entries map[station]api.Entry
}

func modelOf(room int) *model { return &model{room, map[station]api.Entry{}} }

func (m *model) wrong(s station, port int) bool {
	return s.vlan <= 0 || s.vlan >= 4095 || s.mac[0]%2 == 1 || port < 0 || port >= 1001
}

func (m *model) full(s station) bool {
	_, is := m.entries[s]
	return !is && len(m.entries) >= m.room
}

func (m *model) learn(s station, port, now int) (int, api.Errno) {
	if m.wrong(s, port) || now < 0 || now > maxTime {
		return 0, errArg
	}
	if m.full(s) {
		return 0, errFull
	}
	was, is := m.entries[s]
	if is && was.Static {
		return same, ok
	}
	m.entries[s] = api.Entry{Vlan: s.vlan, Mac: s.mac, Port: port, At: now}
	if !is {
		return fresh, ok
	}
	if was.Port == port {
		return same, ok
	}
	return moved, ok
}

func (m *model) put(s station, port int) api.Errno {
	if m.wrong(s, port) {
		return errArg
	}
	if m.full(s) {
		return errFull
	}
	m.entries[s] = api.Entry{Vlan: s.vlan, Mac: s.mac, Port: port, Static: true}
	return ok
}

func (m *model) remove(s station) bool {
	_, is := m.entries[s]
	delete(m.entries, s)
	return is
}

func (m *model) age(now, limit int) []api.Entry {
	if now < 0 || now > maxTime || limit < 0 || limit > maxTime {
		return nil
	}
	return m.forget(func(x api.Entry) bool { return x.At <= now-limit })
}

func (m *model) flushPort(port int) []api.Entry {
	return m.forget(func(x api.Entry) bool { return x.Port == port })
}

func (m *model) flushVlan(vlan int) []api.Entry {
	return m.forget(func(x api.Entry) bool { return x.Vlan == vlan })
}

func (m *model) forget(which func(api.Entry) bool) []api.Entry {
	var l []api.Entry
	for s, x := range m.entries {
		if !x.Static && which(x) {
			l = append(l, x)
			delete(m.entries, s)
		}
	}
	return inOrder(l)
}

func (m *model) all() []api.Entry {
	var l []api.Entry
	for _, x := range m.entries {
		l = append(l, x)
	}
	return inOrder(l)
}

func inOrder(l []api.Entry) []api.Entry {
	text := func(x api.Entry) string { return fmt.Sprintf("%04d %x", x.Vlan, x.Mac[:]) }
	sort.Slice(l, func(i, j int) bool { return text(l[i]) < text(l[j]) })
	return l
}

// made is a table with room for so many.
func made(t testing.TB, room int) *Table {
	t.Helper()
	x, e := New(room)
	if e != ok || x == nil {
		t.Fatalf("New(%d): %v, %d", room, x, e)
	}
	return x
}

// learned and put hold what Learn and Put answer against what they must.
func learned(t *testing.T, x *Table, vlan int, m api.Mac, port, now, want int, wantError api.Errno) {
	t.Helper()
	if k, e := x.Learn(vlan, m, port, now); k != want || e != wantError {
		t.Errorf("Learn(%d, %x, %d, %d): %d, %d, must be %d, %d", vlan, m, port, now, k, e, want, wantError)
	}
}

func put(t *testing.T, x *Table, vlan int, m api.Mac, port int, want api.Errno) {
	t.Helper()
	if e := x.Put(vlan, m, port); e != want {
		t.Errorf("Put(%d, %x, %d): %d, must be %d", vlan, m, port, e, want)
	}
}

// there holds that an entry is in a table, just as it is told.
func there(t *testing.T, x *Table, want api.Entry) {
	t.Helper()
	if y, is := x.Look(want.Vlan, want.Mac); !is || y != want {
		t.Errorf("Look(%d, %x): %v, %t, must be %v", want.Vlan, want.Mac, y, is, want)
	}
}

// absent holds that a table knows nothing of a station.
func absent(t *testing.T, x *Table, vlan int, m api.Mac) {
	t.Helper()
	if y, is := x.Look(vlan, m); is || y != (api.Entry{}) {
		t.Errorf("Look(%d, %x): %v, %t, must be nothing", vlan, m, y, is)
	}
}

func removed(t *testing.T, x *Table, vlan int, m api.Mac, want bool) {
	t.Helper()
	if is := x.Remove(vlan, m); is != want {
		t.Errorf("Remove(%d, %x): %t, must be %t", vlan, m, is, want)
	}
}

// list holds a list against the one that must be; nil and empty are the same.
func list(t *testing.T, what string, l []api.Entry, want ...api.Entry) {
	t.Helper()
	if !slices.Equal(l, want) {
		t.Errorf("%s: %v, must be %v", what, l, want)
	}
}

// holds asks a table all that must be there, and how many.
func holds(t *testing.T, x *Table, want ...api.Entry) {
	t.Helper()
	list(t, "All", x.All(), want...)
	if n := x.Len(); n != len(want) {
		t.Errorf("Len: %d, must be %d", n, len(want))
	}
	for _, y := range want {
		there(t, x, y)
	}
}

// seen is an entry that was learned, and fixed one that was put.
func seen(vlan int, m api.Mac, port, at int) api.Entry {
	return api.Entry{Vlan: vlan, Mac: m, Port: port, At: at}
}

func fixed(vlan int, m api.Mac, port int) api.Entry {
	return api.Entry{Vlan: vlan, Mac: m, Port: port, Static: true}
}

// addr is the address of a station by its number; each is of one alone.
func addr(n int) api.Mac {
	return api.Mac{2, 0, byte(n >> 24), byte(n >> 16), byte(n >> 8), byte(n)}
}

// filled is a table that is full, by stations of the VLAN 1 from 0 on, each third one Static, none at the port 1000.
func filled(t *testing.T, room int) (*Table, []api.Entry) {
	t.Helper()
	x := made(t, room)
	var l []api.Entry
	for i := range room {
		if i%3 == 2 {
			put(t, x, 1, addr(i), i%1000, ok)
			l = append(l, fixed(1, addr(i), i%1000))
		} else {
			learned(t, x, 1, addr(i), i%1000, i, fresh, ok)
			l = append(l, seen(1, addr(i), i%1000, i))
		}
	}
	return x, l
}

// ones are addresses of one, at the edges; many are those of many.
func ones() []api.Mac {
	return []api.Mac{
		{}, {0, 0, 0, 0, 0, 1}, {2}, {0, 1}, {0, 255, 255, 255, 255, 255}, {0x80, 1, 1, 1, 1, 1},
		{254, 255, 255, 255, 255, 255}, {254}, {0x10, 0x80, 0xc2}, {0xfc, 1, 2, 3, 4, 5},
	}
}

func many() []api.Mac {
	return []api.Mac{
		{1}, {3}, {255, 255, 255, 255, 255, 255}, {1, 0x80, 0xc2, 0, 0, 0x0e}, {0x81}, {0xff}, {1, 0, 0x5e, 1, 1, 1},
	}
}

// far are numbers that are neither a VLAN, a port, a room nor a moment.
func far() []int {
	return []int{math.MinInt, math.MinInt + 1, math.MinInt32, -maxTime, -4096, -1, maxTime + 1, 1<<41 + 5, 1<<62 + 1, math.MaxInt - 1, math.MaxInt}
}

// P8.1: a table takes as many as it has room for, and no more.
func TestNew(t *testing.T) {
	for _, room := range []int{1, 2, 3, 7, 64, 1000, 1023, 1024} {
		x := made(t, room)
		holds(t, x)
		absent(t, x, 1, addr(0))
		absent(t, x, 0, api.Mac{})
		x, l := filled(t, room)
		holds(t, x, l...)
		learned(t, x, 1, addr(room), 1, 1, 0, errFull)
		put(t, x, 1, addr(room), 1, errFull)
		holds(t, x, l...)
	}
}

// P8.1, R1: rooms that may not be.
func TestNewRefuses(t *testing.T) {
	for _, room := range append(far(), 0, -1, -1024, 1025, 2048, 1<<32+1) {
		if x, e := New(room); x != nil || e != errArg {
			t.Errorf("New(%d): %v, %d, must be nothing, %d", room, x, e, errArg)
		}
	}
}

// P8.1: what may be, at all edges, is learned and put as it was told.
func TestEdges(t *testing.T) {
	for _, vlan := range []int{1, 2, 4093, 4094} {
		for _, port := range []int{0, 1, 999, 1000} {
			for _, m := range ones() {
				for _, now := range []int{0, 1, maxTime - 1, maxTime} {
					x := made(t, 1)
					learned(t, x, vlan, m, port, now, fresh, ok)
					holds(t, x, seen(vlan, m, port, now))
				}
				x := made(t, 1)
				put(t, x, vlan, m, port, ok)
				holds(t, x, fixed(vlan, m, port))
			}
		}
	}
}

// refused holds that neither Learn nor Put takes what may not be, and that nothing changes.
func refused(t *testing.T, x *Table, vlan int, m api.Mac, port int) {
	t.Helper()
	ahead := x.All()
	learned(t, x, vlan, m, port, 5, 0, errArg)
	learned(t, x, vlan, m, port, -1, 0, errArg)
	put(t, x, vlan, m, port, errArg)
	holds(t, x, ahead...)
}

// P8.1, R1: what may not be is refused: of a table with room, of one that is full, where the station is there, and where it is Static.
func TestRefuses(t *testing.T) {
	x := made(t, 3)
	x.Learn(1, addr(1), 7, 7)
	full, _ := filled(t, 3)
	for _, x := range []*Table{made(t, 3), x, full} {
		for _, vlan := range append(far(), 0, 4095, 4096, 4096+1, 8192, 65536+1) {
			refused(t, x, vlan, addr(1), 7)
		}
		for _, port := range append(far(), 1001, 1002, 1024, 2000, 65536) {
			refused(t, x, 1, addr(1), port)
			refused(t, x, 1, addr(2), port)
			refused(t, x, 1, addr(9), port)
		}
		for _, m := range many() {
			refused(t, x, 1, m, 7)
		}
		ahead := x.All()
		for _, now := range far() {
			for _, n := range []int{1, 2, 9} {
				learned(t, x, 1, addr(n), 7, now, 0, errArg)
			}
		}
		holds(t, x, ahead...)
	}
}

// P8.1: learning one that is there: at the same port, at another one, at a moment that is later, the same, or ahead.
func TestLearnAgain(t *testing.T) {
	for _, now := range []int{0, 9, 10, 11, maxTime} {
		x := made(t, 2)
		learned(t, x, 1, addr(1), 3, 10, fresh, ok)
		learned(t, x, 1, addr(1), 3, now, same, ok)
		holds(t, x, seen(1, addr(1), 3, now))
		learned(t, x, 1, addr(1), 0, now, moved, ok)
		holds(t, x, seen(1, addr(1), 0, now))
		learned(t, x, 1, addr(1), 1000, 10, moved, ok)
		learned(t, x, 1, addr(1), 1000, now, same, ok)
		learned(t, x, 1, addr(1), 3, now, moved, ok)
		holds(t, x, seen(1, addr(1), 3, now))
	}
}

// P8.1: stations are the same by their VLAN and Mac alone.
func TestStationsDiffer(t *testing.T) {
	x := made(t, 4)
	learned(t, x, 1, addr(1), 3, 1, fresh, ok)
	learned(t, x, 2, addr(1), 4, 2, fresh, ok)
	learned(t, x, 1, addr(2), 3, 3, fresh, ok)
	put(t, x, 2, addr(2), 3, ok)
	learned(t, x, 1, addr(1), 5, 4, moved, ok)
	holds(t, x, seen(1, addr(1), 5, 4), seen(1, addr(2), 3, 3), seen(2, addr(1), 4, 2), fixed(2, addr(2), 3))
	removed(t, x, 2, addr(1), true)
	holds(t, x, seen(1, addr(1), 5, 4), seen(1, addr(2), 3, 3), fixed(2, addr(2), 3))
}

// P8.1: what is Static stays as it is, however it is seen.
func TestLearnOfStatic(t *testing.T) {
	for _, room := range []int{1, 2} {
		x := made(t, room)
		put(t, x, 4094, addr(1), 9, ok)
		for _, port := range []int{0, 8, 9, 10, 1000} {
			for _, now := range []int{0, 5, maxTime} {
				learned(t, x, 4094, addr(1), port, now, same, ok)
				holds(t, x, fixed(4094, addr(1), 9))
			}
		}
	}
}

// P8.1: putting one that is not there, that was learned, and that is Static, at the same port and at another one.
func TestPut(t *testing.T) {
	for _, room := range []int{1, 2} {
		for _, port := range []int{0, 8, 9, 10, 1000} {
			x := made(t, room)
			put(t, x, 1, addr(1), port, ok)
			holds(t, x, fixed(1, addr(1), port))
			put(t, x, 1, addr(1), 9, ok)
			holds(t, x, fixed(1, addr(1), 9))
			x = made(t, room)
			learned(t, x, 1, addr(1), 9, 77, fresh, ok)
			put(t, x, 1, addr(1), port, ok)
			holds(t, x, fixed(1, addr(1), port))
			learned(t, x, 1, addr(1), 9, 78, same, ok)
			holds(t, x, fixed(1, addr(1), port))
		}
	}
}

// P8.1: what was Static, and was removed, is learned as one that was never there.
func TestStaticRemoved(t *testing.T) {
	x := made(t, 1)
	put(t, x, 1, addr(1), 9, ok)
	removed(t, x, 1, addr(1), true)
	learned(t, x, 1, addr(1), 9, 5, fresh, ok)
	holds(t, x, seen(1, addr(1), 9, 5))
	learned(t, x, 1, addr(1), 8, 6, moved, ok)
	removed(t, x, 1, addr(1), true)
	put(t, x, 1, addr(1), 7, ok)
	holds(t, x, fixed(1, addr(1), 7))
}

// P8.1, P8.4: a table that is full takes no other one and forgets nothing, but learns and puts those that are there.
func TestFull(t *testing.T) {
	for _, room := range []int{1, 2, 3, 1024} {
		x, l := filled(t, room)
		for n := room; n < room+300; n++ {
			learned(t, x, 1, addr(n), 1, maxTime, 0, errFull)
			put(t, x, 4094, addr(n-room), 1, errFull)
			absent(t, x, 1, addr(n))
			absent(t, x, 4094, addr(n-room))
		}
		holds(t, x, l...)
		for i, y := range l {
			if y.Static {
				learned(t, x, 1, y.Mac, 1000, 5, same, ok)
				continue
			}
			learned(t, x, 1, y.Mac, y.Port, maxTime, same, ok)
			learned(t, x, 1, y.Mac, 1000, 5, moved, ok)
			l[i].Port, l[i].At = 1000, 5
		}
		holds(t, x, l...)
		for i, y := range l {
			put(t, x, 1, y.Mac, 3, ok)
			l[i] = fixed(1, y.Mac, 3)
		}
		holds(t, x, l...)
	}
}

// P8.1: where one was removed or forgotten, there is room for just one other.
func TestRoomAgain(t *testing.T) {
	for _, room := range []int{1, 2, 3, 50} {
		for _, gone := range []int{0, room / 2, room - 1} {
			x, l := filled(t, room)
			removed(t, x, 1, addr(gone), true)
			l = slices.Delete(l, gone, gone+1)
			holds(t, x, l...)
			if gone%2 == 0 {
				learned(t, x, 9, addr(gone), 4, 44, fresh, ok)
				l = append(l, seen(9, addr(gone), 4, 44))
			} else {
				put(t, x, 9, addr(gone), 4, ok)
				l = append(l, fixed(9, addr(gone), 4))
			}
			holds(t, x, l...)
			learned(t, x, 1, addr(gone), 4, 44, 0, errFull)
			put(t, x, 1, addr(gone), 4, errFull)
			holds(t, x, l...)
		}
	}
	x := made(t, 2)
	for range 3000 {
		learned(t, x, 1, addr(1), 4, 9, fresh, ok)
		learned(t, x, 2, addr(2), 5, 10, fresh, ok)
		learned(t, x, 3, addr(3), 5, 10, 0, errFull)
		list(t, "Age", x.Age(10, 1), seen(1, addr(1), 4, 9))
		learned(t, x, 3, addr(3), 6, 9, fresh, ok)
		list(t, "FlushPort", x.FlushPort(5), seen(2, addr(2), 5, 10))
		list(t, "FlushVlan", x.FlushVlan(3), seen(3, addr(3), 6, 9))
	}
}

// P8.2: Look and Remove of what is there, is not, and was removed.
func TestLookAndRemove(t *testing.T) {
	x := made(t, 5)
	absent(t, x, 1, addr(1))
	removed(t, x, 1, addr(1), false)
	learned(t, x, 1, addr(1), 3, 5, fresh, ok)
	put(t, x, 2, addr(2), 4, ok)
	l := []api.Entry{seen(1, addr(1), 3, 5), fixed(2, addr(2), 4)}
	for _, s := range []station{{1, addr(2)}, {2, addr(1)}, {3, addr(1)}, {1, addr(3)}, {4094, addr(1)}} {
		absent(t, x, s.vlan, s.mac)
		removed(t, x, s.vlan, s.mac, false)
	}
	holds(t, x, l...)
	removed(t, x, 1, addr(1), true)
	absent(t, x, 1, addr(1))
	removed(t, x, 1, addr(1), false)
	holds(t, x, l[1])
	removed(t, x, 2, addr(2), true)
	absent(t, x, 2, addr(2))
	removed(t, x, 2, addr(2), false)
	holds(t, x)
	learned(t, x, 1, addr(1), 8, 9, fresh, ok)
	holds(t, x, seen(1, addr(1), 8, 9))
}

// P8.2, P1: of a VLAN and of a Mac that may not be there is nothing, in an empty table, in a full one, and in one in which places were freed.
func TestLookOfWrong(t *testing.T) {
	empty := made(t, 4)
	full, _ := filled(t, 4)
	part, _ := filled(t, 4)
	part.Remove(1, addr(1))
	for _, x := range []*Table{empty, full, part} {
		ahead := x.All()
		for _, m := range append(append(ones(), many()...), addr(0), addr(1), addr(2), addr(3)) {
			for _, vlan := range append(far(), 0, 4095, 4096, 4096+1, 8192+1, 1<<32+1) {
				absent(t, x, vlan, m)
				removed(t, x, vlan, m, false)
			}
		}
		for _, m := range many() {
			absent(t, x, 1, m)
			removed(t, x, 1, m, false)
		}
		holds(t, x, ahead...)
	}
}

// P8.2: All, by rising VLANs, then by Mac, in whatever order they were put in, and behind removals.
func TestAll(t *testing.T) {
	var want []api.Entry
	for _, vlan := range []int{1, 2, 9, 10, 256, 4094} {
		for _, m := range []api.Mac{{}, {0, 0, 0, 0, 0, 1}, {0, 0, 0, 0, 1}, {0, 0, 0, 0, 2}, {0, 0, 1}, {0, 255}, {2}, {0x7e, 255}, {0x80}, {254, 255, 255, 255, 255, 255}} {
			want = append(want, seen(vlan, m, len(want)%7, 100-len(want)))
		}
	}
	r := rand.New(rand.NewPCG(8, 1))
	for range 200 {
		x := made(t, len(want)+r.IntN(20))
		for _, i := range r.Perm(len(want)) {
			y := want[i]
			learned(t, x, y.Vlan, y.Mac, y.Port, y.At, fresh, ok)
		}
		holds(t, x, want...)
		left := slices.Clone(want)
		for len(left) > 0 {
			i := r.IntN(len(left))
			removed(t, x, left[i].Vlan, left[i].Mac, true)
			left = slices.Delete(left, i, i+1)
			holds(t, x, left...)
		}
	}
}

// P8.2: Len counts entries, not calls.
func TestLen(t *testing.T) {
	x := made(t, 3)
	steps := []struct {
		do   func()
		want int
	}{
		{func() {}, 0},
		{func() { x.Learn(1, addr(1), 1, 1) }, 1},
		{func() { x.Learn(1, addr(1), 1, 2) }, 1},
		{func() { x.Learn(1, addr(1), 2, 2) }, 1},
		{func() { x.Put(1, addr(1), 2) }, 1},
		{func() { x.Learn(2, addr(1), 2, 2) }, 2},
		{func() { x.Learn(0, addr(1), 2, 2) }, 2},
		{func() { x.Put(1, addr(2), 2) }, 3},
		{func() { x.Put(1, addr(3), 2) }, 3},
		{func() { x.Learn(1, addr(3), 2, 9) }, 3},
		{func() { x.Remove(1, addr(3)) }, 3},
		{func() { x.Remove(1, addr(1)) }, 2},
		{func() { x.Remove(1, addr(1)) }, 2},
		{func() { x.Age(9, 0) }, 1},
		{func() { x.FlushPort(2) }, 1},
		{func() { x.Learn(1, addr(3), 2, 9) }, 2},
		{func() { x.FlushPort(2) }, 1},
		{func() { x.Learn(7, addr(3), 2, 9) }, 2},
		{func() { x.FlushVlan(7) }, 1},
		{func() { x.Remove(1, addr(2)) }, 0},
	}
	for i, s := range steps {
		s.do()
		if n := x.Len(); n != s.want || len(x.All()) != s.want {
			t.Errorf("step %d: Len %d, All %v, must be %d", i, n, x.All(), s.want)
		}
	}
}

// P8.3: entries just limit below now, one more and one less.
func TestAge(t *testing.T) {
	for _, c := range []struct {
		at, now, limit int
		gone           bool
	}{
		{100, 105, 5, true}, {99, 105, 5, true}, {101, 105, 5, false},
		{6, 10, 5, false}, {6, 11, 5, true}, {6, 12, 5, true},
		{0, 0, 0, true}, {0, 0, 1, false}, {0, 1, 1, true}, {0, 5, 6, false},
		{10, 10, 0, true}, {10, 11, 0, true}, {10, 9, 0, false}, {10, 0, 0, false},
		{10, 9, 1, false}, {10, 0, 10, false}, {10, 0, maxTime, false},
		{0, maxTime, maxTime, true}, {1, maxTime, maxTime, false}, {0, maxTime - 1, maxTime, false},
		{0, maxTime, maxTime - 1, true}, {1, maxTime, maxTime - 1, true}, {2, maxTime, maxTime - 1, false},
		{maxTime, maxTime, 0, true}, {maxTime, maxTime, 1, false}, {maxTime, maxTime - 1, 0, false}, {maxTime, 0, 0, false},
		{maxTime - 1, maxTime, 1, true}, {maxTime, 0, maxTime, false},
	} {
		x := made(t, 2)
		x.Put(1, addr(2), 3)
		x.Learn(1, addr(1), 3, c.at)
		y := seen(1, addr(1), 3, c.at)
		l := x.Age(c.now, c.limit)
		if c.gone {
			list(t, fmt.Sprint("Age ", c), l, y)
			holds(t, x, fixed(1, addr(2), 3))
		} else {
			list(t, fmt.Sprint("Age ", c), l)
			holds(t, x, y, fixed(1, addr(2), 3))
		}
	}
}

// P8.3: a moment counts from where a station was seen last, later or ahead.
func TestAgeOfSeenAgain(t *testing.T) {
	x := made(t, 1)
	x.Learn(1, addr(1), 3, 5)
	x.Learn(1, addr(1), 3, 8)
	list(t, "Age", x.Age(12, 5))
	x.Learn(1, addr(1), 4, 7)
	list(t, "Age", x.Age(12, 5), seen(1, addr(1), 4, 7))
}

// P8.3: with now or limit that may not be nothing is forgotten.
func TestAgeRefuses(t *testing.T) {
	x, l := filled(t, 10)
	for _, n := range far() {
		for _, good := range []int{0, 1, 100, maxTime} {
			list(t, "Age of a wrong now", x.Age(n, good))
			list(t, "Age of a wrong limit", x.Age(good, n))
		}
		for _, other := range far() {
			list(t, "Age of both", x.Age(n, other))
		}
	}
	holds(t, x, l...)
}

// P8.3: FlushPort takes those at a port, whatever their VLAN, and no Static one.
func TestFlushPort(t *testing.T) {
	for _, port := range []int{0, 1, 500, 1000} {
		x := made(t, 9)
		learned(t, x, 2, addr(1), port, 5, fresh, ok)
		learned(t, x, 1, addr(9), port, 0, fresh, ok)
		learned(t, x, 4094, addr(1), port, maxTime, fresh, ok)
		put(t, x, 1, addr(2), port, ok)
		learned(t, x, 2, addr(5), 7, 5, fresh, ok)
		learned(t, x, 2, addr(4), 8, 5, fresh, ok)
		learned(t, x, 2, addr(4), port, 6, moved, ok)
		learned(t, x, 2, addr(3), port, 5, fresh, ok)
		learned(t, x, 2, addr(3), 8, 6, moved, ok)
		for _, other := range append(far(), 999, 2, 1001) {
			list(t, "FlushPort of another one", x.FlushPort(other))
		}
		list(t, "FlushPort", x.FlushPort(port), seen(1, addr(9), port, 0), seen(2, addr(1), port, 5), seen(2, addr(4), port, 6), seen(4094, addr(1), port, maxTime))
		holds(t, x, fixed(1, addr(2), port), seen(2, addr(3), 8, 6), seen(2, addr(5), 7, 5))
		list(t, "FlushPort once more", x.FlushPort(port))
		holds(t, x, fixed(1, addr(2), port), seen(2, addr(3), 8, 6), seen(2, addr(5), 7, 5))
	}
}

// P8.3: FlushVlan takes those of a VLAN, whatever their port, and no Static one.
func TestFlushVlan(t *testing.T) {
	for _, vlan := range []int{1, 2, 4093, 4094} {
		x := made(t, 9)
		learned(t, x, vlan, addr(7), 5, 5, fresh, ok)
		learned(t, x, vlan, addr(3), 0, 0, fresh, ok)
		learned(t, x, vlan, addr(5), 1000, maxTime, fresh, ok)
		put(t, x, vlan, addr(4), 5, ok)
		learned(t, x, 10, addr(3), 5, 5, fresh, ok)
		learned(t, x, 10, addr(2), vlan%1001, 5, fresh, ok)
		for _, other := range append(far(), 0, 3, 4095, 4096, 4096+vlan) {
			list(t, "FlushVlan of another one", x.FlushVlan(other))
		}
		list(t, "FlushVlan", x.FlushVlan(vlan), seen(vlan, addr(3), 0, 0), seen(vlan, addr(5), 1000, maxTime), seen(vlan, addr(7), 5, 5))
		left := inOrder([]api.Entry{fixed(vlan, addr(4), 5), seen(10, addr(2), vlan%1001, 5), seen(10, addr(3), 5, 5)})
		holds(t, x, left...)
		list(t, "FlushVlan once more", x.FlushVlan(vlan))
		holds(t, x, left...)
	}
}

// P8.3: an empty table, and one of Static ones alone, forget nothing.
func TestForgetNothing(t *testing.T) {
	for _, room := range []int{1, 5, 1024} {
		x := made(t, room)
		var l []api.Entry
		for range 2 {
			list(t, "Age", x.Age(maxTime, 0))
			for n := -1; n <= 1001; n++ {
				list(t, "FlushPort", x.FlushPort(n))
				list(t, "FlushVlan", x.FlushVlan(n))
			}
			holds(t, x, l...)
			for i := range room {
				if len(l) < room {
					put(t, x, 1, addr(i), i%1001, ok)
					l = append(l, fixed(1, addr(i), i%1001))
				}
			}
		}
	}
}

// P8.3: what all three tell is in order, of a great table, whatever the order in which it was filled.
func TestForgetInOrder(t *testing.T) {
	r := rand.New(rand.NewPCG(8, 3))
	for range 8 {
		x, m := made(t, 1024), modelOf(1024)
		for _, i := range r.Perm(1024) {
			s := station{1 + i%5, api.Mac{byte(i*2) &^ 1, byte(i >> 7), byte(i)}}
			if i%11 == 0 {
				put(t, x, s.vlan, s.mac, i%4, m.put(s, i%4))
				continue
			}
			k, e := m.learn(s, i%4, i)
			learned(t, x, s.vlan, s.mac, i%4, i, k, e)
		}
		holds(t, x, m.all()...)
		list(t, "FlushPort", x.FlushPort(2), m.flushPort(2)...)
		list(t, "FlushVlan", x.FlushVlan(3), m.flushVlan(3)...)
		list(t, "Age", x.Age(900, 300), m.age(900, 300)...)
		holds(t, x, m.all()...)
		list(t, "Age of all", x.Age(maxTime, 0), m.age(maxTime, 0)...)
		holds(t, x, m.all()...)
	}
}

// answer is one call at a table, told by bytes, and what it answers, as a text.
func answer(x *Table, b [5]byte) string {
	s, port, now, limit := arguments(b)
	switch b[0] % 16 {
	case 0, 1, 2, 3, 4:
		return fmt.Sprint(x.Learn(s.vlan, s.mac, port, now))
	case 5, 6:
		return fmt.Sprint(x.Put(s.vlan, s.mac, port))
	case 7, 8, 9:
		return fmt.Sprint(x.Remove(s.vlan, s.mac))
	case 10:
		return fmt.Sprint(x.Age(now, limit))
	case 11:
		return fmt.Sprint(x.FlushPort(port))
	case 12:
		return fmt.Sprint(x.FlushVlan(s.vlan))
	case 13:
		return fmt.Sprint(x.All(), x.Len())
	}
	return fmt.Sprint(x.Look(s.vlan, s.mac))
}

// expected is the same call at a model.
func expected(m *model, b [5]byte) string {
	s, port, now, limit := arguments(b)
	switch b[0] % 16 {
	case 0, 1, 2, 3, 4:
		return fmt.Sprint(m.learn(s, port, now))
	case 5, 6:
		return fmt.Sprint(m.put(s, port))
	case 7, 8, 9:
		return fmt.Sprint(m.remove(s))
	case 10:
		return fmt.Sprint(m.age(now, limit))
	case 11:
		return fmt.Sprint(m.flushPort(port))
	case 12:
		return fmt.Sprint(m.flushVlan(s.vlan))
	case 13:
		return fmt.Sprint(m.all(), len(m.entries))
	}
	x, is := m.entries[s]
	return fmt.Sprint(x, is)
}

// arguments are mostly such as may be, and few enough to meet again.
func arguments(b [5]byte) (s station, port, now, limit int) {
	s.vlan = []int{1, 2, 1, 4094, 1, 2, 1, 2, 1, 2, 1, 2, 3, 4095, 0, -1}[b[1]%16]
	s.mac = api.Mac{0, 0, 0, 0, 0, b[2] & 31}
	if b[2] > 250 {
		s.mac[0] = b[2]
	}
	port = []int{0, 1, 2, 3, 4, 5, 1000, 6, 7, 8, 9, 10, 11, 12, 1001, -1}[b[3]%16]
	now = int(b[4])
	if b[4] > 250 {
		now = []int{-1, maxTime - 1, maxTime, maxTime + 1, 0}[b[4]-251]
	}
	limit = int(b[1]) * int(b[1]) / 128
	if b[3] > 250 {
		limit = []int{-1, maxTime - 1, maxTime, maxTime + 1, 0}[b[3]-251]
	}
	return s, port, now, limit
}

func anyCall(r *rand.Rand) [5]byte {
	var b [5]byte
	for i := range b {
		b[i] = byte(r.Uint32())
	}
	return b
}

// P8.1 to P8.3: whatever is called, the table answers as the model does.
func TestAnyCalls(t *testing.T) {
	r := rand.New(rand.NewPCG(8, 4))
	for round := range 300 {
		room := 1 + r.IntN(12)
		if round%5 == 0 {
			room = 1 + r.IntN(1024)
		}
		x, m := made(t, room), modelOf(room)
		for range 500 {
			b := anyCall(r)
			if got, want := answer(x, b), expected(m, b); got != want {
				t.Fatalf("call %v at a room of %d: %s, must be %s", b, room, got, want)
			}
		}
		holds(t, x, m.all()...)
	}
}

// P8.4: a table behind any steps tells the same as one to which just its entries were put, at once and from then on.
func TestTheorem(t *testing.T) {
	r := rand.New(rand.NewPCG(8, 5))
	for range 400 {
		room := 1 + r.IntN(40)
		x, y := made(t, room), made(t, room)
		for range r.IntN(400) {
			answer(x, anyCall(r))
		}
		l := x.All()
		r.Shuffle(len(l), func(i, j int) { l[i], l[j] = l[j], l[i] })
		for _, z := range l {
			if z.Static {
				put(t, y, z.Vlan, z.Mac, z.Port, ok)
			} else {
				learned(t, y, z.Vlan, z.Mac, z.Port, z.At, fresh, ok)
			}
		}
		holds(t, y, inOrder(l)...)
		holds(t, x, inOrder(l)...)
		for range 300 {
			b := anyCall(r)
			if one, other := answer(x, b), answer(y, b); one != other {
				t.Fatalf("call %v: %s behind steps, %s of its entries alone", b, one, other)
			}
		}
	}
}

// P8.4: a station is told where it was learned last, whatever happens to others, until it is forgotten.
func TestLearnedLast(t *testing.T) {
	r := rand.New(rand.NewPCG(8, 6))
	for range 100 {
		x := made(t, 20)
		s := station{5, addr(1)}
		last := seen(s.vlan, s.mac, 500, 500)
		learned(t, x, s.vlan, s.mac, last.Port, last.At, fresh, ok)
		for range 200 {
			b := anyCall(r)
			if b[0]%16 == 10 { // what ages may take it, too
				continue
			}
			answer(x, b)
			there(t, x, last)
			if b[4]%8 == 0 {
				last.Port, last.At = 500+int(b[1]), 500+int(b[2])
				x.Learn(s.vlan, s.mac, last.Port, last.At)
				there(t, x, last)
			}
		}
		list(t, "FlushVlan", x.FlushVlan(5), last)
		absent(t, x, s.vlan, s.mac)
	}
}

// crowd is so many stations whose first place is the same, or one of few, in a table of that room.
func crowd(x *Table, places []int, n int) []station {
	var l []station
	for i := 0; len(l) < n; i++ {
		s := station{1 + i%3, addr(i)}
		if slices.Contains(places, x.first(s.vlan, s.mac)) {
			l = append(l, s)
		}
	}
	return l
}

// P8.2, P8.4: stations that all begin at the same places, past the last one too, are found, whichever of them are taken out, in whatever order.
func TestCrowd(t *testing.T) {
	r := rand.New(rand.NewPCG(8, 7))
	for _, room := range []int{1, 2, 3, 5, 8, 13} {
		last := 2*room - 1
		for _, places := range [][]int{{0}, {last}, {last, 0}, {last - 1, last, 0, 1}, {room - 1, room}, {0, last / 2, last}} {
			x, m := made(t, room), modelOf(room)
			l := crowd(x, places, room+2)
			for range 400 {
				s := l[r.IntN(len(l))]
				if r.IntN(3) == 0 {
					removed(t, x, s.vlan, s.mac, m.remove(s))
				} else {
					port := r.IntN(3)
					k, e := m.learn(s, port, 5)
					learned(t, x, s.vlan, s.mac, port, 5, k, e)
				}
				if t.Failed() {
					t.Fatalf("at a room of %d, with first places %v", room, places)
				}
				holds(t, x, m.all()...)
			}
			list(t, "FlushPort", x.FlushPort(1), m.flushPort(1)...)
			holds(t, x, m.all()...)
		}
	}
}

// P1, P8.4: the greatest table, all of whose stations begin at one place, ends each call and knows each of them.
func TestGreatCrowd(t *testing.T) {
	x := made(t, 1024)
	l := crowd(x, []int{2047}, 1025)
	for i, s := range l[:1024] {
		learned(t, x, s.vlan, s.mac, i%2, i, fresh, ok)
	}
	learned(t, x, l[1024].vlan, l[1024].mac, 1, 1, 0, errFull)
	absent(t, x, l[1024].vlan, l[1024].mac)
	if n := len(x.FlushPort(0)); n != 512 || x.Len() != 512 {
		t.Errorf("FlushPort: %d, Len: %d, must be 512", n, x.Len())
	}
	for i, s := range l[:1024] {
		if i%2 == 0 {
			absent(t, x, s.vlan, s.mac)
		} else {
			there(t, x, seen(s.vlan, s.mac, 1, i))
		}
	}
}

// R3: lists that are told are the caller's own, and stay as they are when the table changes.
func TestListsAreOwn(t *testing.T) {
	fill := func() (*Table, []api.Entry) {
		x := made(t, 8)
		var l []api.Entry
		for i := range 4 {
			learned(t, x, 1, addr(i), 3, 5, fresh, ok)
			l = append(l, seen(1, addr(i), 3, 5))
		}
		put(t, x, 1, addr(9), 3, ok)
		return x, append(l, fixed(1, addr(9), 3))
	}
	for what, ask := range map[string]func(*Table) []api.Entry{
		"All":       func(x *Table) []api.Entry { return x.All() },
		"Age":       func(x *Table) []api.Entry { return x.Age(10, 5) },
		"FlushPort": func(x *Table) []api.Entry { return x.FlushPort(3) },
		"FlushVlan": func(x *Table) []api.Entry { return x.FlushVlan(1) },
	} {
		x, want := fill()
		l := ask(x)
		told := slices.Clone(l)
		list(t, what, told, want[:len(told)]...)
		left := x.All()
		for i := range l {
			l[i] = seen(7, addr(77), 7, 77)
		}
		_ = append(l, seen(8, addr(88), 8, 88))
		holds(t, x, left...)
		if what == "All" {
			holds(t, x, want...)
		}
		x, _ = fill()
		l = ask(x)
		x.Learn(1, addr(0), 6, 66)
		x.Learn(1, addr(1), 6, 66)
		x.Remove(1, addr(9))
		x.Put(1, addr(2), 8)
		x.Learn(4, addr(5), 6, 66)
		list(t, what+" ahead of a change", l, told...)
	}
	x, want := fill()
	y, _ := x.Look(1, addr(2))
	y.Port, y.At, y.Static, y.Mac[5] = 9, 9, true, 99
	holds(t, x, want...)
	m := addr(2)
	x.Learn(1, m, 3, 6)
	m[5] = 55
	there(t, x, seen(1, addr(2), 3, 6))
	absent(t, x, 1, m)
}

// R4: tables are apart from each other.
func TestTablesAreApart(t *testing.T) {
	x, y := made(t, 2), made(t, 2)
	learned(t, x, 1, addr(1), 3, 5, fresh, ok)
	holds(t, y)
	learned(t, y, 1, addr(1), 4, 6, fresh, ok)
	put(t, y, 1, addr(2), 4, ok)
	holds(t, x, seen(1, addr(1), 3, 5))
	removed(t, x, 1, addr(1), true)
	holds(t, y, seen(1, addr(1), 4, 6), fixed(1, addr(2), 4))
}

// R6: of the layers below, the package calls mac alone.
func TestCalls(t *testing.T) {
	files, _ := filepath.Glob("*.go")
	for _, name := range files {
		if strings.HasSuffix(name, "_test.go") {
			continue
		}
		f, e := parser.ParseFile(token.NewFileSet(), name, nil, parser.ImportsOnly)
		if e != nil {
			t.Fatal(e)
		}
		for _, i := range f.Imports {
			if strings.HasPrefix(i.Path.Value, `"gemel/`) && i.Path.Value != `"gemel/api"` && i.Path.Value != `"gemel/mac"` {
				t.Errorf("%s imports %s", name, i.Path.Value)
			}
		}
	}
}

// What learning comes to has the numbers of the chapter.
func TestNumbers(t *testing.T) {
	if Same != 0 || Fresh != 1 || Moved != 2 {
		t.Errorf("Same, Fresh, Moved: %d, %d, %d", Same, Fresh, Moved)
	}
}

// The chapter's example.
func TestExample(t *testing.T) {
	x := made(t, 10)
	learned(t, x, 1, addr(1), 3, 5, fresh, ok)
	learned(t, x, 1, addr(1), 4, 6, moved, ok)
	list(t, "Age(10, 5)", x.Age(10, 5))
	list(t, "Age(11, 5)", x.Age(11, 5), seen(1, addr(1), 4, 6))
	holds(t, x)
}

// FuzzTable: whatever is called, nothing panics, and the table answers as the model does.
func FuzzTable(f *testing.F) {
	f.Add(2, []byte{0, 0, 1, 1, 5, 0, 0, 1, 2, 6, 10, 30, 0, 0, 11})
	f.Add(1024, []byte{5, 3, 2, 6, 0, 0, 3, 2, 6, 9, 7, 3, 2, 0, 0, 13, 0, 0, 0, 0})
	f.Fuzz(func(t *testing.T, room int, b []byte) {
		x, e := New(room)
		if room < 1 || room > 1024 {
			if x != nil || e != errArg {
				t.Fatalf("New(%d): %v, %d", room, x, e)
			}
			return
		}
		m := modelOf(room)
		for ; len(b) >= 5; b = b[5:] {
			if got, want := answer(x, [5]byte(b)), expected(m, [5]byte(b)); got != want {
				t.Fatalf("call %v: %s, must be %s", b[:5], got, want)
			}
		}
		holds(t, x, m.all()...)
	})
}
