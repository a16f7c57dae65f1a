package journal

import (
	"bytes"
	"fmt"
	"go/parser"
	"go/token"
	"math"
	"math/rand/v2"
	"path/filepath"
	"slices"
	"sort"
	"strings"
	"testing"

	"gemel/api"
	"gemel/fdb"
)

// The errors, and the greatest number, as numbers.
const (
	ok      = 0
	errArg  = 1
	errFull = 3

	maxSeq = 1 << 30
)

// model is the document's words told in another way than the program's: all changes from the first one on.
type model struct {
	room int
	all  []api.Change
}

func (m *model) put(x api.Entry, gone bool) int {
	m.all = append(m.all, api.Change{Seq: len(m.all) + 1, Entry: x, Gone: gone})
	return len(m.all)
}

func (m *model) since(seq int) ([]api.Change, bool) {
	if seq < 0 || seq > len(m.all) {
		return nil, false
	}
	var l []api.Change
	for i, c := range m.all {
		if c.Seq <= seq {
			continue
		}
		if i < len(m.all)-m.room {
			return nil, false
		}
		l = append(l, c)
	}
	return l, true
}

// replay is Replay as a list that is searched, and sorted by its bytes.
func replay(l []api.Entry, changes []api.Change) []api.Entry {
	var now []api.Entry
	take := func(x api.Entry) {
		now = slices.DeleteFunc(now, func(y api.Entry) bool { return y.Vlan == x.Vlan && y.Mac == x.Mac })
	}
	for _, x := range l {
		take(x)
		now = append(now, x)
	}
	for _, c := range changes {
		take(c.Entry)
		if !c.Gone {
			now = append(now, c.Entry)
		}
	}
	sort.Slice(now, func(i, j int) bool {
		if now[i].Vlan != now[j].Vlan {
			return now[i].Vlan < now[j].Vlan
		}
		return bytes.Compare(now[i].Mac[:], now[j].Mac[:]) < 0
	})
	return now
}

// made is a journal of so many at most.
func made(t testing.TB, room int) *Journal {
	t.Helper()
	j, e := New(room)
	if e != ok || j == nil {
		t.Fatalf("New(%d): %v, %d", room, j, e)
	}
	return j
}

// both are a journal and its model, to which that many changes were put.
func both(t testing.TB, room, puts int) (*Journal, *model) {
	t.Helper()
	j, m := made(t, room), &model{room: room}
	for i := range puts {
		x, gone := some(i), i%3 == 1
		noted(t, j, x, gone, m.put(x, gone))
	}
	return j, m
}

// noted holds that a change is noted, with that number.
func noted(t testing.TB, j *Journal, x api.Entry, gone bool, want int) {
	t.Helper()
	if n, e := j.Put(x, gone); n != want || e != ok {
		t.Errorf("Put(%v, %t): %d, %d, must be %d", x, gone, n, e, want)
	}
}

// full holds that no change is noted any more.
func full(t testing.TB, j *Journal, x api.Entry, gone bool) {
	t.Helper()
	if n, e := j.Put(x, gone); n != 0 || e != errFull {
		t.Errorf("Put(%v, %t): %d, %d, must be 0, %d", x, gone, n, e, errFull)
	}
}

// last holds the greatest number against the one that must be.
func last(t testing.TB, j *Journal, want int) {
	t.Helper()
	if n := j.Last(); n != want {
		t.Errorf("Last: %d, must be %d", n, want)
	}
}

// since holds that just these changes are told; none and nil are the same.
func since(t testing.TB, j *Journal, seq int, want ...api.Change) {
	t.Helper()
	if l, is := j.Since(seq); !is || !slices.Equal(l, want) {
		t.Errorf("Since(%d): %v, %t, must be %v", seq, l, is, want)
	}
}

// unknown holds that nothing is told, and false.
func unknown(t testing.TB, j *Journal, seq int) {
	t.Helper()
	if l, is := j.Since(seq); is || len(l) != 0 {
		t.Errorf("Since(%d): %v, %t, must be nothing", seq, l, is)
	}
}

// keeps asks a journal all that its model tells, and of numbers that there are not.
func keeps(t testing.TB, j *Journal, m *model) {
	t.Helper()
	last(t, j, len(m.all))
	for seq := -3; seq <= len(m.all)+3; seq++ {
		if l, is := m.since(seq); is {
			since(t, j, seq, l...)
		} else {
			unknown(t, j, seq)
		}
	}
	for _, seq := range far() {
		unknown(t, j, seq)
	}
}

// replayed holds what is replayed against what must be.
func replayed(t testing.TB, l []api.Entry, changes []api.Change, want ...api.Entry) {
	t.Helper()
	if x := Replay(l, changes); !slices.Equal(x, want) {
		t.Errorf("Replay(%v, %v): %v, must be %v", l, changes, x, want)
	}
}

// addr is the address of a station by its number.
func addr(n int) api.Mac {
	return api.Mac{2, 0, byte(n >> 24), byte(n >> 16), byte(n >> 8), byte(n)}
}

// some is an entry like no other one's, by its number.
func some(n int) api.Entry {
	return api.Entry{Vlan: 1 + n%4094, Mac: addr(n), Port: n % 1001, At: 7 * n, Static: n%5 == 2}
}

// at is an entry of a station, at a port.
func at(vlan, n, port int) api.Entry {
	return api.Entry{Vlan: vlan, Mac: addr(n), Port: port, At: 5}
}

// in and out are changes, without a number: one that puts an entry in, and one that takes it out.
func in(x api.Entry) api.Change { return api.Change{Entry: x} }

func out(x api.Entry) api.Change { return api.Change{Entry: x, Gone: true} }

// far are numbers that are neither a room nor the number of a change.
func far() []int {
	return []int{math.MinInt, math.MinInt + 1, math.MinInt + 1000, math.MinInt32, -maxSeq, -1000, -1, maxSeq + 1, 1<<32 + 1, 1 << 40, math.MaxInt - 1000, math.MaxInt - 1, math.MaxInt}
}

// odd are entries that no table has: of a VLAN, an address, a port or a moment that may not be.
func odd() []api.Entry {
	l := []api.Entry{
		{}, {Static: true}, {Vlan: 1, Port: 3, At: 9, Static: true},
		{Vlan: 1, Mac: api.Mac{1}}, {Vlan: 1, Mac: api.Mac{255, 255, 255, 255, 255, 255}}, {Vlan: 1, Mac: api.Mac{1, 0x80, 0xc2, 0, 0, 0x0e}},
	}
	for _, n := range append(far(), 0, 1001, 4095, 4096) {
		l = append(l, api.Entry{Vlan: n, Mac: addr(1)}, api.Entry{Vlan: 1, Mac: addr(1), Port: n}, api.Entry{Vlan: 1, Mac: addr(1), At: n})
	}
	return l
}

// P9.1: a journal is empty at first, of each room that may be.
func TestNew(t *testing.T) {
	for room := 1; room <= 1000; room++ {
		keeps(t, made(t, room), &model{room: room})
	}
}

// P9.1, R1: rooms that may not be.
func TestNewRefuses(t *testing.T) {
	for _, room := range append(far(), 0, -1, -2, -1000, 1001, 1002, 1024, 2000, 65536+1, 1<<32+1000) {
		if j, e := New(room); j != nil || e != errArg {
			t.Errorf("New(%d): %v, %d, must be nothing, %d", room, j, e, errArg)
		}
	}
}

// P9.1, P9.2: changes have the numbers from 1 on, behind such as were forgotten too; just as many as room are known.
func TestPut(t *testing.T) {
	for room := 1; room <= 9; room++ {
		j, m := both(t, room, 0)
		for i := range 5*room + 3 {
			x, gone := some(i), i%2 == 1
			noted(t, j, x, gone, m.put(x, gone))
			keeps(t, j, m)
		}
	}
}

// P9.1, P9.2: the same of great rooms, at their edges.
func TestPutGreatRooms(t *testing.T) {
	for _, room := range []int{64, 100, 255, 256, 257, 512, 999, 1000} {
		for _, puts := range []int{1, room - 1, room, room + 1, 2*room - 1, 2 * room, 2*room + 1, 3*room + 1} {
			j, m := both(t, room, puts)
			keeps(t, j, m)
		}
	}
}

// P9.1: each change has a number of its own, also one that was put already, of an entry that is gone and of one that is not.
func TestPutAgain(t *testing.T) {
	for _, room := range []int{1, 2, 5, 40} {
		j, m := both(t, room, 0)
		for i := range 30 {
			x, gone := some(i/10), i%10 >= 5
			noted(t, j, x, gone, m.put(x, gone))
			keeps(t, j, m)
		}
	}
}

// P9.1: no entry is refused, not one that may not be in a table either, and each is told as it was put.
func TestPutOfOdd(t *testing.T) {
	for _, room := range []int{1, 3, 1000} {
		j, m := both(t, room, 0)
		for _, x := range odd() {
			for _, gone := range []bool{false, true} {
				n := m.put(x, gone)
				noted(t, j, x, gone, n)
				since(t, j, n-1, api.Change{Seq: n, Entry: x, Gone: gone})
			}
		}
		keeps(t, j, m)
	}
}

// P9.1: at the greatest number each Put is refused, and changes nothing; here each number up to it was put.
func TestGreatestNumber(t *testing.T) {
	j, a, b := made(t, 2), some(1), some(2)
	for n := 1; n < maxSeq; n++ {
		if got, e := j.Put(a, false); got != n || e != ok {
			t.Fatalf("Put: %d, %d, must be %d", got, e, n)
		}
	}
	last(t, j, maxSeq-1)
	noted(t, j, b, true, maxSeq)
	for range 3 {
		for _, x := range append(odd(), a, b) {
			full(t, j, x, false)
			full(t, j, x, true)
		}
		last(t, j, maxSeq)
		since(t, j, maxSeq)
		since(t, j, maxSeq-1, api.Change{Seq: maxSeq, Entry: b, Gone: true})
		since(t, j, maxSeq-2, api.Change{Seq: maxSeq - 1, Entry: a}, api.Change{Seq: maxSeq, Entry: b, Gone: true})
		unknown(t, j, maxSeq-3)
		unknown(t, j, maxSeq+1)
		unknown(t, j, 0)
	}
}

// worn is a journal as it is behind so many Puts, and those of its changes that are known. Puts are no fewer than room.
func worn(t *testing.T, room, puts int) (*Journal, []api.Change) {
	t.Helper()
	j := made(t, room)
	j.last = puts - room
	var l []api.Change
	for n := puts - room + 1; n <= puts; n++ {
		noted(t, j, some(n), n%2 == 0, n)
		l = append(l, api.Change{Seq: n, Entry: some(n), Gone: n%2 == 0})
	}
	return j, l
}

// P9.1, P9.2: rooms of all kinds, near the greatest number and behind many Puts.
func TestGreatNumbers(t *testing.T) {
	for _, room := range []int{1, 2, 3, 7, 64, 1000} {
		for _, puts := range []int{room, 5 * room, 1<<16 + 1, 1<<24 + 3, maxSeq - 1, maxSeq} {
			j, l := worn(t, room, puts)
			last(t, j, puts)
			for i := range room + 1 {
				since(t, j, puts-room+i, l[i:]...)
			}
			for i := range min(5, puts-room) {
				unknown(t, j, puts-room-1-i)
				unknown(t, j, i)
			}
			unknown(t, j, puts+1)
			unknown(t, j, -1)
			if puts == maxSeq {
				full(t, j, some(1), true)
				since(t, j, puts-room, l...)
			}
		}
	}
}

// P9.1: Last of an empty journal, and behind Puts.
func TestLast(t *testing.T) {
	j := made(t, 3)
	last(t, j, 0)
	last(t, j, 0)
	for n := 1; n <= 50; n++ {
		j.Put(some(n%4), n%3 == 0)
		last(t, j, n)
		j.Since(n - 1)
		last(t, j, n)
	}
}

// P9.2: in an empty journal there is nothing behind 0, and no other number.
func TestSinceOfEmpty(t *testing.T) {
	for _, room := range []int{1, 2, 1000} {
		j := made(t, room)
		since(t, j, 0)
		for _, seq := range append(far(), 1, 2, room, room+1, -room) {
			unknown(t, j, seq)
		}
	}
}

// P9.2: changes, with their numbers, in order: of a journal with room left, one that has just as many as its room, and one that has forgotten some.
func TestSince(t *testing.T) {
	var c [6]api.Change
	for n := range c {
		c[n] = api.Change{Seq: n, Entry: some(9 - n), Gone: n%2 == 0}
	}
	for _, x := range []struct{ puts, eldest int }{{1, 1}, {2, 1}, {3, 1}, {4, 2}, {5, 3}} {
		j := made(t, 3)
		for _, y := range c[1 : x.puts+1] {
			noted(t, j, y.Entry, y.Gone, y.Seq)
		}
		for seq := range 9 {
			switch {
			case seq < x.eldest-1 || seq > x.puts:
				unknown(t, j, seq)
			default:
				since(t, j, seq, c[seq+1:x.puts+1]...)
			}
		}
		for _, seq := range far() {
			unknown(t, j, seq)
		}
	}
}

// P9.2: asking changes nothing.
func TestSinceAgain(t *testing.T) {
	j, m := both(t, 4, 7)
	for range 3 {
		keeps(t, j, m)
	}
}

// P9.3: lists and changes, each of a few.
func TestReplay(t *testing.T) {
	a, b, c := at(1, 1, 3), at(1, 2, 4), at(2, 1, 5)
	moved, static := at(1, 1, 9), api.Entry{Vlan: 1, Mac: addr(1), Port: 7, Static: true}
	for _, x := range []struct {
		what    string
		l       []api.Entry
		changes []api.Change
		want    []api.Entry
	}{
		{"nothing", nil, nil, nil},
		{"nothing, empty", []api.Entry{}, []api.Change{}, nil},
		{"no changes", []api.Entry{a, b, c}, nil, []api.Entry{a, b, c}},
		{"no entries", nil, []api.Change{in(a), in(b)}, []api.Entry{a, b}},
		{"no entries, one taken out", nil, []api.Change{out(a)}, nil},
		{"put in", []api.Entry{b}, []api.Change{in(a)}, []api.Entry{a, b}},
		{"put in the place of one", []api.Entry{a, b}, []api.Change{in(moved)}, []api.Entry{moved, b}},
		{"put in the place of one that is learned", []api.Entry{a, b}, []api.Change{in(static)}, []api.Entry{static, b}},
		{"put in the place of one that is Static", []api.Entry{static, b}, []api.Change{in(a)}, []api.Entry{a, b}},
		{"put in as it was", []api.Entry{a, b}, []api.Change{in(a)}, []api.Entry{a, b}},
		{"taken out", []api.Entry{a, b}, []api.Change{out(a)}, []api.Entry{b}},
		{"taken out, all", []api.Entry{a, b}, []api.Change{out(b), out(a)}, nil},
		{"taken out, of another port", []api.Entry{a, b}, []api.Change{out(moved)}, []api.Entry{b}},
		{"taken out, of a Static one", []api.Entry{static, b}, []api.Change{out(a)}, []api.Entry{b}},
		{"taken out, as a Static one", []api.Entry{a, b}, []api.Change{out(static)}, []api.Entry{b}},
		{"taken out, of its VLAN and Mac alone", []api.Entry{a, b}, []api.Change{out(api.Entry{Vlan: 1, Mac: addr(1)})}, []api.Entry{b}},
		{"taken out, not there", []api.Entry{a, b}, []api.Change{out(c)}, []api.Entry{a, b}},
		{"taken out, of another VLAN", []api.Entry{a}, []api.Change{out(at(2, 1, 3))}, []api.Entry{a}},
		{"taken out, of another Mac", []api.Entry{a}, []api.Change{out(at(1, 2, 3))}, []api.Entry{a}},
		{"taken out twice", []api.Entry{a, b}, []api.Change{out(a), out(a)}, []api.Entry{b}},
		{"in, then out", []api.Entry{b}, []api.Change{in(a), out(a)}, []api.Entry{b}},
		{"out, then in", []api.Entry{b}, []api.Change{out(a), in(a)}, []api.Entry{a, b}},
		{"out, then in elsewhere", []api.Entry{a, b}, []api.Change{out(a), in(moved)}, []api.Entry{moved, b}},
		{"in elsewhere, then out", []api.Entry{a, b}, []api.Change{in(moved), out(moved)}, []api.Entry{b}},
		{"in elsewhere, and back", []api.Entry{a, b}, []api.Change{in(moved), in(a)}, []api.Entry{a, b}},
		{"in, in, out, in", nil, []api.Change{in(a), in(moved), out(a), in(static)}, []api.Entry{static}},
		{"others between", []api.Entry{b}, []api.Change{in(a), in(c), in(moved), out(b), in(b), out(c)}, []api.Entry{moved, b}},
		{"no order", []api.Entry{c, b, a}, nil, []api.Entry{a, b, c}},
		{"no order, and changes", []api.Entry{c, a}, []api.Change{in(b)}, []api.Entry{a, b, c}},
		{"one that stands twice", []api.Entry{a, b, moved}, nil, []api.Entry{moved, b}},
		{"one that stands twice, the other way", []api.Entry{moved, b, a}, nil, []api.Entry{a, b}},
		{"one that stands thrice", []api.Entry{a, static, c, moved}, nil, []api.Entry{moved, c}},
		{"one that stands twice, as it is", []api.Entry{a, a, b}, nil, []api.Entry{a, b}},
		{"one that stands twice, taken out", []api.Entry{a, b, moved}, []api.Change{out(a)}, []api.Entry{b}},
		{"one that stands twice, put in", []api.Entry{a, b, moved}, []api.Change{in(static)}, []api.Entry{static, b}},
	} {
		t.Run(x.what, func(t *testing.T) { replayed(t, x.l, x.changes, x.want...) })
	}
}

// rising are entries as Replay orders them; what else they tell falls where they rise, or hangs on nothing.
func rising() []api.Entry {
	var l []api.Entry
	for _, vlan := range []int{1, 2, 9, 10, 255, 256, 4094} {
		for _, m := range []api.Mac{{}, {0, 0, 0, 0, 0, 1}, {0, 0, 0, 0, 1}, {0, 0, 0, 0, 2}, {0, 0, 1}, {0, 255}, {2}, {0x7e, 255}, {0x80}, {254, 255, 255, 255, 255, 255}} {
			l = append(l, api.Entry{Vlan: vlan, Mac: m, Port: 1000 - len(l), At: len(l) % 7, Static: len(l)%3 == 1})
		}
	}
	return l
}

// P9.3: by rising VLANs, then Macs, in whatever order they stand in the list and in the changes.
func TestReplayOrder(t *testing.T) {
	want := rising()
	r := rand.New(rand.NewPCG(9, 1))
	for range 300 {
		l := slices.Clone(want)
		r.Shuffle(len(l), func(i, j int) { l[i], l[j] = l[j], l[i] })
		cut := r.IntN(len(l) + 1)
		var changes []api.Change
		for _, x := range l[cut:] {
			changes = append(changes, in(x))
		}
		replayed(t, l[:cut], changes, want...)
	}
}

// P9.3: changes are done in the order in which they stand, whatever their numbers are.
func TestReplayTakesNoNumbers(t *testing.T) {
	a, b := at(1, 1, 3), at(1, 1, 4)
	for _, n := range append(far(), 0, 1, 2, 3) {
		replayed(t, nil, []api.Change{{Seq: 2, Entry: a}, {Seq: n, Entry: b}}, b)
		replayed(t, nil, []api.Change{{Seq: n, Entry: a}, {Seq: 2, Entry: b}}, b)
		replayed(t, []api.Entry{a}, []api.Change{{Seq: 2, Entry: b}, {Seq: n, Entry: a, Gone: true}})
	}
}

// P9.3, P1: entries that may not be in a table are put in, taken out and ordered as others are.
func TestReplayOfOdd(t *testing.T) {
	l := odd()
	replayed(t, l, nil, replay(l, nil)...)
	var changes []api.Change
	for i, x := range l {
		changes = append(changes, in(x))
		replayed(t, l[i:], changes, replay(l[i:], changes)...)
		replayed(t, []api.Entry{x}, nil, x)
		replayed(t, nil, []api.Change{in(x)}, x)
		replayed(t, l[:i+1], []api.Change{out(x)}, replay(l[:i+1], []api.Change{out(x)})...)
	}
	replayed(t, []api.Entry{{Vlan: 1}, {Vlan: math.MaxInt}, {Vlan: -1}, {}, {Vlan: math.MinInt}, {Vlan: 4095}}, nil,
		api.Entry{Vlan: math.MinInt}, api.Entry{Vlan: -1}, api.Entry{}, api.Entry{Vlan: 1}, api.Entry{Vlan: 4095}, api.Entry{Vlan: math.MaxInt})
}

// P9.3: of a crowd, which of them are there, and what was told of them last.
func TestReplayOfMany(t *testing.T) {
	var l, want []api.Entry
	var changes []api.Change
	for i := 19999; i >= 0; i-- {
		l = append(l, at(1+i/100, i%100, 1))
	}
	for i := range 20000 {
		switch i % 4 {
		case 0:
			changes = append(changes, out(at(1+i/100, i%100, 2)))
			continue
		case 1:
			changes = append(changes, in(at(1+i/100, i%100, 2)), in(at(1+i/100, i%100, 3)))
			want = append(want, at(1+i/100, i%100, 3))
		default:
			want = append(want, at(1+i/100, i%100, 1))
		}
	}
	replayed(t, l, changes, want...)
}

// anyEntry is of one of a few stations, so that they meet again.
func anyEntry(r *rand.Rand) api.Entry {
	return api.Entry{Vlan: 1 + r.IntN(3), Mac: addr(r.IntN(6)), Port: r.IntN(4), At: r.IntN(9), Static: r.IntN(4) == 0}
}

func anyList(r *rand.Rand, n int) []api.Entry {
	var l []api.Entry
	for range n {
		l = append(l, anyEntry(r))
	}
	return l
}

func anyChanges(r *rand.Rand, n int) []api.Change {
	var l []api.Change
	for i := range n {
		l = append(l, api.Change{Seq: i + 1, Entry: anyEntry(r), Gone: r.IntN(3) == 0})
	}
	return l
}

// P9.3: whatever is replayed is what the model makes of it, at once or in two steps.
func TestReplayOfAny(t *testing.T) {
	r := rand.New(rand.NewPCG(9, 2))
	for range 3000 {
		l, changes := anyList(r, r.IntN(25)), anyChanges(r, r.IntN(40))
		want := replay(l, changes)
		replayed(t, l, changes, want...)
		cut := r.IntN(len(changes) + 1)
		replayed(t, Replay(l, changes[:cut]), changes[cut:], want...)
	}
}

// kept is a table whose changes are noted, and what it had at each number.
type kept struct {
	t     *testing.T
	table *fdb.Table
	notes *Journal
	had   [][]api.Entry
}

// change does something to one entry, or to several, and notes all that came of it.
func (k *kept) change(r *rand.Rand) {
	x := anyEntry(r)
	switch r.IntN(12) {
	case 0:
		k.gone(k.table.Age(9, 3)...)
	case 1:
		k.gone(k.table.FlushPort(x.Port)...)
	case 2:
		k.gone(k.table.FlushVlan(x.Vlan)...)
	case 3, 4, 5:
		if y, is := k.table.Look(x.Vlan, x.Mac); is {
			k.table.Remove(x.Vlan, x.Mac)
			k.gone(y)
		}
	case 6:
		if k.table.Put(x.Vlan, x.Mac, x.Port) == ok {
			k.is(x)
		}
	default:
		if _, e := k.table.Learn(x.Vlan, x.Mac, x.Port, x.At); e == ok {
			k.is(x)
		}
	}
}

// is notes what the table has of a station now.
func (k *kept) is(x api.Entry) {
	k.t.Helper()
	y, _ := k.table.Look(x.Vlan, x.Mac)
	k.had = append(k.had, k.table.All())
	noted(k.t, k.notes, y, false, len(k.had)-1)
}

// gone notes entries that the table has no more; ahead of the last one of them it still had some.
func (k *kept) gone(l ...api.Entry) {
	k.t.Helper()
	for i, x := range l {
		k.had = append(k.had, replay(append(k.table.All(), l[i+1:]...), nil))
		noted(k.t, k.notes, x, true, len(k.had)-1)
	}
}

// P9.4: what a table has now is Replay of what it had at any number, and the changes since, as long as these are known.
func TestTheorem(t *testing.T) {
	r := rand.New(rand.NewPCG(9, 3))
	for _, room := range []int{1, 2, 10, 60, 1000} {
		for range 20 {
			table, _ := fdb.New(12)
			k := &kept{t: t, table: table, notes: made(t, room), had: [][]api.Entry{nil}}
			for range 100 {
				k.change(r)
			}
			now := k.notes.Last()
			last(t, k.notes, len(k.had)-1)
			for seq, l := range k.had {
				changes, is := k.notes.Since(seq)
				if is != (now-seq <= room) {
					t.Fatalf("Since(%d) at a room of %d and %d changes: %t", seq, room, now, is)
				}
				if is {
					replayed(t, l, changes, table.All()...)
				}
			}
		}
	}
}

// P9.4: two lists that replay the same changes have the same entries wherever a change was, and elsewhere their own.
func TestTwoReplay(t *testing.T) {
	r := rand.New(rand.NewPCG(9, 4))
	for range 2000 {
		one, other, changes := anyList(r, r.IntN(20)), anyList(r, r.IntN(20)), anyChanges(r, r.IntN(15))
		changed := func(x api.Entry) bool {
			return slices.ContainsFunc(changes, func(c api.Change) bool { return c.Entry.Vlan == x.Vlan && c.Entry.Mac == x.Mac })
		}
		where := func(l []api.Entry, is bool) []api.Entry {
			return slices.DeleteFunc(slices.Clone(l), func(x api.Entry) bool { return changed(x) != is })
		}
		x, y := Replay(one, changes), Replay(other, changes)
		if !slices.Equal(where(x, true), where(y, true)) {
			t.Fatalf("%v and %v differ where %v changes something", x, y, changes)
		}
		if !slices.Equal(where(x, false), where(replay(one, nil), false)) {
			t.Fatalf("%v has not what %v has where %v changes nothing", x, one, changes)
		}
	}
}

// R3: an entry that is put is the journal's own from then on.
func TestPutTakesACopy(t *testing.T) {
	j := made(t, 3)
	x := some(4)
	noted(t, j, x, false, 1)
	x.Vlan, x.Port, x.At, x.Static, x.Mac[5] = 9, 9, 9, !x.Static, 99
	since(t, j, 0, api.Change{Seq: 1, Entry: some(4)})
}

// R3: changes that are told are the caller's own, and stay as they are when others take their places.
func TestSinceIsOwn(t *testing.T) {
	for _, puts := range []int{1, 3, 4, 5, 9} {
		j, m := both(t, 4, puts)
		from := max(0, puts-4)
		l, _ := j.Since(from)
		other, _ := j.Since(from)
		told := slices.Clone(l)
		for i := range l {
			l[i] = api.Change{Seq: 77, Entry: some(77), Gone: true}
		}
		_ = append(l[:0], api.Change{Seq: 88}, api.Change{Seq: 89})
		keeps(t, j, m)
		for i := range 9 {
			noted(t, j, some(500+i), true, puts+1+i)
		}
		if !slices.Equal(other, told) {
			t.Errorf("told %v, and now it is %v", told, other)
		}
	}
}

// R3: what is replayed stays as it is, and shares nothing with what is told.
func TestReplayIsOwn(t *testing.T) {
	r := rand.New(rand.NewPCG(9, 5))
	for round := range 500 {
		l, changes := anyList(r, 1+r.IntN(9)), anyChanges(r, round%5)
		l, changes = slices.Grow(l, 5), slices.Grow(changes, 5)
		wasList, wasChanges := slices.Clone(l), slices.Clone(changes)
		x := Replay(l, changes)
		want := slices.Clone(x)
		for i := range x {
			x[i] = some(77)
		}
		_ = append(x[:0], some(88))
		if !slices.Equal(l, wasList) || !slices.Equal(changes, wasChanges) {
			t.Fatalf("%v and %v were handed in, and are %v and %v", wasList, wasChanges, l, changes)
		}
		x = Replay(l, changes)
		for i := range l {
			l[i] = some(99)
		}
		for i := range changes {
			changes[i] = out(some(99))
		}
		if !slices.Equal(x, want) {
			t.Fatalf("told %v, must be %v", x, want)
		}
	}
}

// R3: a list that is in order already is told as one of the caller's own, too.
func TestReplayOfOrdered(t *testing.T) {
	l := rising()
	x := Replay(l, nil)
	x[0] = some(77)
	if !slices.Equal(l, rising()) {
		t.Errorf("the list that was handed in is %v", l)
	}
}

// R4: journals are apart from each other.
func TestJournalsAreApart(t *testing.T) {
	a, m := both(t, 3, 2)
	b, n := both(t, 3, 0)
	keeps(t, b, n)
	noted(t, b, some(40), true, n.put(some(40), true))
	keeps(t, a, m)
	noted(t, a, some(50), false, m.put(some(50), false))
	keeps(t, b, n)
	keeps(t, a, m)
}

// R4: the same is told each time.
func TestReplayAgain(t *testing.T) {
	l := rising()
	for range 100 {
		replayed(t, l, nil, l...)
	}
}

// R6: of the layers below, the package calls mac alone.
func TestCalls(t *testing.T) {
	files, _ := filepath.Glob("*.go")
	for _, name := range files {
		if strings.HasSuffix(name, "_test.go") {
			continue
		}
		f, e := parser.ParseFile(token.NewFileSet(), name, nil, parser.ImportsOnly)
		if e != nil {
			t.Fatal(e)
		}
		for _, i := range f.Imports {
			if strings.HasPrefix(i.Path.Value, `"gemel/`) && i.Path.Value != `"gemel/api"` && i.Path.Value != `"gemel/mac"` {
				t.Errorf("%s imports %s", name, i.Path.Value)
			}
		}
	}
}

// The chapter's example.
func TestExample(t *testing.T) {
	j := made(t, 2)
	noted(t, j, some(1), false, 1)
	noted(t, j, some(2), false, 2)
	noted(t, j, some(3), true, 3)
	since(t, j, 1, api.Change{Seq: 2, Entry: some(2)}, api.Change{Seq: 3, Entry: some(3), Gone: true})
	unknown(t, j, 0)
}

// entryOf is an entry by three bytes: of few stations, and now and then one that may not be in a table.
func entryOf(b []byte) api.Entry {
	x := api.Entry{Vlan: int(b[0] % 4), Mac: api.Mac{0, 0, 0, 0, 0, b[1] % 8}, Port: int(b[2] % 16), At: int(b[2]), Static: b[1] >= 128}
	if b[0] > 250 {
		x.Vlan, x.Mac[0] = -int(b[0]), b[2]
	}
	return x
}

// FuzzJournal: whatever is called, nothing panics, and journal and Replay answer as the model does.
func FuzzJournal(f *testing.F) {
	f.Add(2, []byte{0, 1, 1, 1, 1, 1, 2, 2, 2, 0, 0, 1, 0, 1, 3, 1, 1, 1, 3, 0})
	f.Add(1000, []byte{0, 255, 9, 9, 3, 2, 0, 0, 0, 255, 3, 0, 0, 200})
	f.Fuzz(func(t *testing.T, room int, b []byte) {
		j, e := New(room)
		if room < 1 || room > 1000 {
			if j != nil || e != errArg {
				t.Fatalf("New(%d): %v, %d", room, j, e)
			}
			return
		}
		m := &model{room: room}
		var l []api.Entry
		for ; len(b) >= 4; b = b[4:] {
			x := entryOf(b[1:])
			if b[0]%4 == 3 {
				l = append(l, x)
				continue
			}
			noted(t, j, x, b[0]%4 == 2, m.put(x, b[0]%4 == 2))
			seq := len(m.all) - int(int8(b[3]))
			got, is := j.Since(seq)
			want, wantIs := m.since(seq)
			if fmt.Sprint(got, is) != fmt.Sprint(want, wantIs) {
				t.Fatalf("Since(%d): %v, %t, must be %v, %t", seq, got, is, want, wantIs)
			}
			replayed(t, l, got, replay(l, want)...)
		}
		last(t, j, len(m.all))
	})
}
