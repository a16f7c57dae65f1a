package queue

import (
	"bytes"
	"fmt"
	"go/parser"
	"go/token"
	"math"
	"math/rand/v2"
	"path/filepath"
	"runtime"
	"strings"
	"testing"
	"weak"
)

// The errors, as numbers.
const (
	ok      = 0
	errArg  = 1
	errFull = 3
)

// What came of what was put.
const (
	waiting = iota
	got
	lost
	gone
)

// thing is what was put once.
type thing struct {
	class, now int
	b          []byte
}

// model is the document's words told in another way than the program's: all that was put, of all classes in one list, and what came of it.
type model struct {
	room int
	all  []thing
}

// count is how many of a class have come to that.
func (m *model) count(class, now int) int {
	n := 0
	for _, x := range m.all {
		if x.class == class && x.now == now {
			n++
		}
	}
	return n
}

// waits is how many wait of all classes.
func (m *model) waits() int {
	n := 0
	for class := range 8 {
		n += m.count(class, waiting)
	}
	return n
}

func (m *model) put(class int, b []byte) int {
	if class < 0 || class > 7 {
		return errArg
	}
	if m.count(class, waiting) >= m.room {
		m.all = append(m.all, thing{class: class, now: lost})
		return errFull
	}
	m.all = append(m.all, thing{class: class, b: bytes.Clone(b)})
	return ok
}

// get is the place of what must be got next, or -1.
func (m *model) get() int {
	best := -1
	for i, x := range m.all {
		if x.now == waiting && (best < 0 || x.class > m.all[best].class) {
			best = i
		}
	}
	if best >= 0 {
		m.all[best].now = got
	}
	return best
}

func (m *model) clear() int {
	n := 0
	for i := range m.all {
		if m.all[i].now == waiting {
			m.all[i].now = gone
			n++
		}
	}
	return n
}

// held is a queue and its model, of which the same is asked.
type held struct {
	t testing.TB
	q *Queue
	m *model
}

// made is an empty queue of so much room.
func made(t testing.TB, room int) *held {
	t.Helper()
	q, e := New(room)
	if e != ok || q == nil {
		t.Fatalf("New(%d): %v, %d", room, q, e)
	}
	return &held{t, q, &model{room: room}}
}

// put puts something, and tells what must come of it.
func (h *held) put(class int, b []byte) int {
	h.t.Helper()
	e, want := h.q.Put(class, b), h.m.put(class, b)
	if int(e) != want {
		h.t.Fatalf("Put(%d, %q): %d, must be %d", class, b, e, want)
	}
	return want
}

// puts holds that it comes to just this.
func (h *held) puts(class int, b []byte, want int) {
	h.t.Helper()
	if e := h.put(class, b); e != want {
		h.t.Fatalf("Put(%d, %q) came to %d, must be %d", class, b, e, want)
	}
}

// get gets what is next, if something is.
func (h *held) get() {
	h.t.Helper()
	at := h.m.get()
	if at < 0 {
		h.gets(0, nil, false)
		return
	}
	h.gets(h.m.all[at].class, h.m.all[at].b, true)
}

// gets holds what is got against what must be; none and nil are the same.
func (h *held) gets(class int, b []byte, is bool) {
	h.t.Helper()
	if c, x, i := h.q.Get(); c != class || !bytes.Equal(x, b) || i != is {
		h.t.Fatalf("Get: %d, %q, %t, must be %d, %q, %t", c, x, i, class, b, is)
	}
}

// next holds that a text of that class is got.
func (h *held) next(class int, text string) {
	h.t.Helper()
	at := h.m.get()
	if at < 0 || h.m.all[at].class != class || string(h.m.all[at].b) != text {
		h.t.Fatalf("the model gets %d, not %q of %d", at, text, class)
	}
	h.gets(class, []byte(text), true)
}

// clear lets all go, however many that are.
func (h *held) clear() {
	h.t.Helper()
	h.clears(h.m.waits())
}

// clears lets all go, that must be so many.
func (h *held) clears(want int) {
	h.t.Helper()
	if n := h.m.clear(); n != want {
		h.t.Fatalf("the model's Clear: %d, must be %d", n, want)
	}
	if n := h.q.Clear(); n != want {
		h.t.Fatalf("Clear: %d, must be %d", n, want)
	}
}

// counts asks how many wait and were lost, of each class and of what is none.
func (h *held) counts() {
	h.t.Helper()
	for class := range 8 {
		h.has(class, h.m.count(class, waiting), h.m.count(class, lost))
	}
	for _, class := range noClass() {
		h.has(class, 0, 0)
	}
}

// has holds of a class how many wait and were lost.
func (h *held) has(class, waits, lost int) {
	h.t.Helper()
	if n := h.q.Len(class); n != waits {
		h.t.Fatalf("Len(%d): %d, must be %d", class, n, waits)
	}
	if n := h.q.Lost(class); n != lost {
		h.t.Fatalf("Lost(%d): %d, must be %d", class, n, lost)
	}
}

// empties gets all that waits, and then nothing.
func (h *held) empties() {
	h.t.Helper()
	for h.m.waits() > 0 {
		h.get()
	}
	h.gets(0, nil, false)
	h.counts()
}

// text is like no other number's.
func text(n int) []byte { return fmt.Appendf(nil, "the bytes of %d", n) }

// far are numbers that are neither a room nor a class.
func far() []int {
	return []int{math.MinInt, math.MinInt + 1, math.MinInt + 7, math.MinInt + 1000, -1 << 32, math.MinInt32, -65536, -1000, -8, -7, -2, -1, 65536 * 65536, 1<<32 + 1, 1<<32 + 7, 1 << 40, math.MaxInt - 7, math.MaxInt - 1, math.MaxInt}
}

// noClass are numbers that are no class.
func noClass() []int {
	return append(far(), 8, 9, 10, 15, 16, 17, 63, 64, 255, 256, 257, 263, 1000, 65536, 65543)
}

// P10.1: a queue is empty at first, of each room that may be, and takes just as many of each class.
func TestNew(t *testing.T) {
	for room := 1; room <= 1000; room++ {
		h := made(t, room)
		h.gets(0, nil, false)
		for class := range 8 {
			h.has(class, 0, 0)
		}
		h.clears(0)
	}
}

// P10.1, R1: rooms that may not be.
func TestNewRefuses(t *testing.T) {
	for _, room := range append(far(), 0, 1001, 1002, 1024, 2000, 65536, 65537, 1<<32+1000) {
		if q, e := New(room); q != nil || e != errArg {
			t.Errorf("New(%d): %v, %d, must be nothing, %d", room, q, e, errArg)
		}
	}
}

// P10.1: of each class just as many as room wait, whatever waits of others; what is above that is lost.
func TestRoom(t *testing.T) {
	for _, room := range []int{1, 2, 3, 7, 8, 9, 63, 64, 65, 255, 256, 257, 999, 1000} {
		h := made(t, room)
		for class := range 8 {
			for n := range room {
				h.q.Put(class, text(n))
			}
			h.has(class, room, 0)
			for n := range 3 {
				if e := h.q.Put(class, text(room+n)); e != errFull {
					t.Fatalf("Put at a room of %d, behind %d: %d, must be %d", room, room+n, e, errFull)
				}
				h.has(class, room, n+1)
			}
		}
		for class := 7; class >= 0; class-- {
			for n := range room {
				h.gets(class, text(n), true)
				h.has(class, room-1-n, 3)
			}
		}
		h.gets(0, nil, false)
	}
}

// P10.1: something of each class alone is put, waits, and is got with its class.
func TestPut(t *testing.T) {
	for class := range 8 {
		h := made(t, 2)
		h.puts(class, text(class), ok)
		h.has(class, 1, 0)
		h.counts()
		h.next(class, string(text(class)))
		h.counts()
		h.gets(0, nil, false)
	}
}

// P10.1, R1: what is no class takes nothing, and nothing is changed or lost: of an empty queue, and of one that is full.
func TestPutRefuses(t *testing.T) {
	for _, fill := range []int{0, 1, 2, 3} {
		h := made(t, 2)
		for class := range 8 {
			for n := range fill {
				h.put(class, text(n))
			}
		}
		for _, class := range noClass() {
			for _, b := range [][]byte{nil, {}, {1}, text(class)} {
				h.puts(class, b, errArg)
			}
			h.counts()
		}
		h.empties()
	}
}

// P10.1, R2: bytes that are none, one and many are got as they were put, and what was empty or nil is still something.
func TestPutOfBytes(t *testing.T) {
	every := make([]byte, 256)
	for i := range every {
		every[i] = byte(i)
	}
	for _, b := range [][]byte{nil, {}, every[:0], {0}, {0, 0}, {255}, every, text(1), bytes.Repeat(every, 1<<12)} {
		for class := range 8 {
			h := made(t, 1)
			h.puts(class, b, ok)
			h.has(class, 1, 0)
			h.puts(class, b, errFull)
			h.has(class, 1, 1)
			h.gets(class, b, true)
			h.gets(0, nil, false)
		}
	}
}

// P10.1: what was empty or nil stands in its place among others.
func TestEmptyWaitsAsOthersDo(t *testing.T) {
	h := made(t, 4)
	for _, b := range [][]byte{nil, text(1), {}, text(2)} {
		h.puts(3, b, ok)
	}
	h.puts(2, nil, ok)
	h.puts(3, nil, errFull)
	for _, b := range []string{"", string(text(1)), "", string(text(2))} {
		h.next(3, b)
	}
	h.next(2, "")
	h.gets(0, nil, false)
}

// P10.1: where a class is full what is put is lost, and others still take; behind a Get of that class it takes again, and behind one of another class not.
func TestFull(t *testing.T) {
	for full := range 8 {
		h := made(t, 2)
		h.puts(full, text(1), ok)
		h.puts(full, text(2), ok)
		h.puts(full, text(3), errFull)
		for class := range 8 {
			if class != full {
				h.puts(class, text(10+class), ok)
			}
		}
		h.counts()
		for class := 7; class > full; class-- {
			h.next(class, string(text(10+class)))
			h.puts(full, text(4), errFull)
		}
		h.next(full, string(text(1)))
		h.puts(full, text(5), ok)
		h.puts(full, text(6), errFull)
		h.next(full, string(text(2)))
		h.next(full, string(text(5)))
		h.counts()
		h.empties()
	}
}

// P10.1: at a room of 1 each Put that takes needs a Get ahead of it.
func TestRoomOfOne(t *testing.T) {
	h := made(t, 1)
	for n := range 100 {
		h.puts(5, text(n), ok)
		h.puts(5, text(-1), errFull)
		h.next(5, string(text(n)))
		h.has(5, 0, n+1)
	}
}

// P10.1: where nothing waits nothing is got: ahead of all, behind Gets, behind a refused Put, and again.
func TestGetOfNothing(t *testing.T) {
	h := made(t, 3)
	for range 3 {
		h.gets(0, nil, false)
	}
	h.puts(8, text(1), errArg)
	h.gets(0, nil, false)
	for class := range 8 {
		h.puts(class, text(class), ok)
		h.next(class, string(text(class)))
		for range 3 {
			h.gets(0, nil, false)
		}
	}
	h.counts()
}

// P10.1: of the greatest class of which something waits, in whatever order they were put: each choice of classes.
func TestGetTakesTheGreatestClass(t *testing.T) {
	for choice := range 256 {
		up, down := made(t, 1), made(t, 1)
		for n := range 8 {
			if choice>>n&1 == 1 {
				up.puts(n, text(n), ok)
			}
			if choice>>(7-n)&1 == 1 {
				down.puts(7-n, text(7-n), ok)
			}
		}
		for class := 7; class >= 0; class-- {
			if choice>>class&1 == 1 {
				up.next(class, string(text(class)))
				down.next(class, string(text(class)))
			}
		}
		up.gets(0, nil, false)
		down.gets(0, nil, false)
	}
}

// P10.1: of one class the one that waits longest, whatever is put and got between.
func TestGetTakesTheEldest(t *testing.T) {
	for class := range 8 {
		for _, room := range []int{1, 2, 3, 5, 16, 100} {
			h := made(t, room)
			first, behind := 0, 0
			for round := range 60 {
				for behind-first < room && behind < 3*round+1 {
					h.puts(class, text(behind), ok)
					behind++
				}
				for range min(behind-first, 1+round%3) {
					h.next(class, string(text(first)))
					first++
				}
				h.has(class, behind-first, 0)
			}
		}
	}
}

// P10.1: what comes of a greater class goes ahead of all that waits of a lesser one, and what comes of a lesser one behind.
func TestGetBetweenPuts(t *testing.T) {
	h := made(t, 5)
	h.puts(3, []byte("a"), ok)
	h.puts(3, []byte("b"), ok)
	h.next(3, "a")
	h.puts(4, []byte("c"), ok)
	h.puts(2, []byte("d"), ok)
	h.next(4, "c")
	h.puts(3, []byte("e"), ok)
	h.next(3, "b")
	h.puts(7, []byte("f"), ok)
	h.puts(0, []byte("g"), ok)
	h.next(7, "f")
	h.next(3, "e")
	h.next(2, "d")
	h.next(0, "g")
	h.gets(0, nil, false)
	h.counts()
}

// P10.2: Len and Lost of each class tell of it alone.
func TestLenAndLost(t *testing.T) {
	h := made(t, 4)
	for class := range 8 {
		for n := range class + 1 {
			h.put(class, text(n))
		}
		for of := range 8 {
			switch {
			case of > class:
				h.has(of, 0, 0)
			case of < 4:
				h.has(of, of+1, 0)
			default:
				h.has(of, 4, of-3)
			}
		}
		h.counts()
	}
}

// P10.2: asking changes nothing.
func TestAskingChangesNothing(t *testing.T) {
	h := made(t, 2)
	for n := range 20 {
		h.put(n%8, text(n))
		h.put(5, text(n))
	}
	for range 5 {
		h.counts()
	}
	h.empties()
}

// P10.2: what was lost is told as lost behind Gets, behind Puts that take, and behind Clear, and no Get takes it off.
func TestLostStays(t *testing.T) {
	h := made(t, 1)
	for class := range 8 {
		for n := range class + 2 {
			h.put(class, text(n))
		}
	}
	for class := 7; class >= 0; class-- {
		h.next(class, string(text(0)))
		h.has(class, 0, class+1)
		h.counts()
	}
	h.gets(0, nil, false)
	h.counts()
	h.clears(0)
	h.counts()
	for class := range 8 {
		h.puts(class, text(class), ok)
		h.has(class, 1, class+1)
	}
	h.clears(8)
	for class := range 8 {
		h.has(class, 0, class+1)
		h.puts(class, text(class), ok)
		h.puts(class, text(class), errFull)
		h.has(class, 1, class+2)
	}
}

// P10.2: Clear of an empty queue: ahead of all, behind Gets, and behind a Clear.
func TestClearOfNothing(t *testing.T) {
	h := made(t, 3)
	h.clears(0)
	h.clears(0)
	h.counts()
	h.puts(1, text(1), ok)
	h.puts(6, text(2), ok)
	h.next(6, string(text(2)))
	h.next(1, string(text(1)))
	h.clears(0)
	h.counts()
	h.puts(4, text(1), ok)
	h.clears(1)
	h.clears(0)
	h.gets(0, nil, false)
}

// P10.2: Clear lets all classes go, tells how many waited, and loses none; behind it there is as much room as at first.
func TestClear(t *testing.T) {
	for choice := range 256 {
		h := made(t, 3)
		want := 0
		for class := range 8 {
			for n := range choice >> class & 1 * (1 + class%3) {
				h.puts(class, text(n), ok)
				want++
			}
		}
		h.clears(want)
		for class := range 8 {
			h.has(class, 0, 0)
		}
		h.gets(0, nil, false)
		for class := range 8 {
			for n := range 3 {
				h.puts(class, text(50+n), ok)
			}
			h.puts(class, text(99), errFull)
		}
		h.counts()
		h.empties()
	}
}

// P10.2: Clear counts what waits alone: not what was got, lost or refused ahead of it.
func TestClearCountsWhatWaits(t *testing.T) {
	h := made(t, 1000)
	for class := range 8 {
		for n := range 1003 {
			h.q.Put(class, text(n))
		}
	}
	for n := range 10 {
		h.gets(7, text(n), true)
	}
	h.q.Put(8, text(1))
	if n := h.q.Clear(); n != 8*1000-10 {
		t.Errorf("Clear: %d, must be %d", n, 8*1000-10)
	}
	for class := range 8 {
		h.has(class, 0, 3)
	}
	h.gets(0, nil, false)
}

// story is what a queue was told and answered, held against the words of the theorem alone: of each class what was put and not lost, what of it was got, and where the last Clear was.
type story struct {
	put, got [8][]string
	cleared  [8]int
}

// puts notes what was put and not lost.
func (s *story) puts(class int, b []byte) { s.put[class] = append(s.put[class], string(b)) }

// waits is what must wait of a class: what was put behind what was got and behind what was let go.
func (s *story) waits(class int) []string { return s.put[class][s.cleared[class]+len(s.got[class]):] }

// gets holds that what was got may be: the eldest that waits of its class, while nothing of a greater one does.
func (s *story) gets(t *testing.T, class int, b []byte, is bool) {
	t.Helper()
	for greater := 7; greater > class || !is && greater >= 0; greater-- {
		if l := s.waits(greater); len(l) > 0 {
			t.Fatalf("got %d, %q, %t, while %q of %d waits", class, b, is, l[0], greater)
		}
	}
	if !is {
		return
	}
	if l := s.waits(class); len(l) == 0 || l[0] != string(b) {
		t.Fatalf("got %q of %d, while these wait: %q", b, class, l)
	}
	s.got[class] = append(s.got[class], string(b))
}

// clears notes that what waits is let go, and tells how many that are.
func (s *story) clears() int {
	n := 0
	for class := range 8 {
		gone := len(s.waits(class))
		s.cleared[class] += gone
		n += gone
	}
	return n
}

// P10.3: Put, Get and Clear in any order, in many rounds.
func TestTheorem(t *testing.T) {
	r := rand.New(rand.NewPCG(10, 1))
	for _, room := range []int{1, 2, 3, 10, 100, 1000} {
		for round := range 30 {
			h, s := made(t, room), &story{}
			lost := [8]int{}
			greedy := 1 + round%5
			for n := range 4000 {
				class := r.IntN(8)
				switch k := r.IntN(8); {
				case n%997 == 996:
					if want, is := s.clears(), h.q.Clear(); is != want {
						t.Fatalf("Clear: %d, must be %d", is, want)
					}
				case k < greedy:
					class, b, is := h.q.Get()
					s.gets(t, class, b, is)
				case h.q.Put(class, text(n)) == ok:
					s.puts(class, text(n))
				default:
					lost[class]++
				}
				h.has(class, len(s.waits(class)), lost[class])
			}
			for {
				class, b, is := h.q.Get()
				s.gets(t, class, b, is)
				if !is {
					break
				}
			}
		}
	}
}

// P10.3: without a Clear all that was put and not lost is got, in order, each once.
func TestAllIsGot(t *testing.T) {
	r := rand.New(rand.NewPCG(10, 2))
	for _, room := range []int{1, 4, 50, 1000} {
		h, s := made(t, room), &story{}
		for n := range 20000 {
			class := r.IntN(8)
			if h.q.Put(class, text(n)) == ok {
				s.puts(class, text(n))
			}
			for range r.IntN(3) {
				if class, b, is := h.q.Get(); is {
					s.got[class] = append(s.got[class], string(b))
				}
			}
		}
		for class, b, is := h.q.Get(); is; class, b, is = h.q.Get() {
			s.got[class] = append(s.got[class], string(b))
		}
		for class := range 8 {
			if a, b := strings.Join(s.put[class], "\n"), strings.Join(s.got[class], "\n"); a != b {
				t.Errorf("of %d, at a room of %d, %d were put and not lost, and %d got, or in another order", class, room, len(s.put[class]), len(s.got[class]))
			}
		}
	}
}

// P10.1 to P10.3: whatever is called, the queue answers as the model does.
func TestAny(t *testing.T) {
	r := rand.New(rand.NewPCG(10, 3))
	for room := 1; room <= 12; room++ {
		for range 20 {
			h := made(t, room)
			for n := range 150 {
				switch k := r.IntN(20); {
				case k == 0:
					h.clear()
				case k < 8:
					h.get()
				case k < 10:
					h.put(r.IntN(12)-2, text(n)[:r.IntN(5)])
				default:
					h.put(r.IntN(3)+r.IntN(6), text(n))
				}
				h.counts()
			}
			h.empties()
		}
	}
}

// R3: bytes that are changed behind Put change nothing of what waits, and Put changes nothing of them or behind them.
func TestPutTakesACopy(t *testing.T) {
	h := made(t, 3)
	long := []byte("abcdef")
	b := long[:3]
	h.puts(4, b, ok)
	h.puts(4, b, ok)
	h.puts(6, b[1:2], ok)
	if string(long) != "abcdef" {
		t.Fatalf("abcdef was handed in, and is %q", long)
	}
	copy(long, "uvwxyz")
	h.puts(4, b, ok)
	h.next(6, "b")
	h.next(4, "abc")
	h.next(4, "abc")
	h.next(4, "uvw")
	if string(long) != "uvwxyz" {
		t.Fatalf("uvwxyz was handed in, and is %q", long)
	}
}

// R3: bytes that were refused, or lost, stay as they are, too.
func TestPutRefusesAndTakesNothing(t *testing.T) {
	h := made(t, 1)
	h.puts(0, text(1), ok)
	b := text(2)
	h.puts(0, b, errFull)
	h.puts(9, b, errArg)
	if !bytes.Equal(b, text(2)) {
		t.Errorf("%q was handed in, and is %q", text(2), b)
	}
}

// R3: bytes that were got are the caller's own: what is done to them, or behind them, changes nothing that waits, and no later Put changes them.
func TestGetIsOwn(t *testing.T) {
	for _, room := range []int{1, 2, 5, 40} {
		h := made(t, room)
		b := []byte("abc")
		for class := range 8 {
			for range room {
				h.q.Put(class, b)
			}
		}
		var all [][]byte
		for class := 7; class >= 0; class-- {
			for range room {
				c, x, is := h.q.Get()
				if c != class || string(x) != "abc" || !is {
					t.Fatalf("Get: %d, %q, %t", c, x, is)
				}
				for _, y := range all {
					if string(y) != "xyz" {
						t.Fatalf("xyz became %q", y)
					}
				}
				copy(x, "xyz")
				whole := x[:cap(x)]
				for i := range whole[len(x):] {
					whole[len(x)+i] = '!'
				}
				_ = append(x[:0], "xyz"...)
				all = append(all, x)
				h.q.Put(class, b)
				h.q.Put(0, b)
			}
			for range room {
				h.gets(class, b, true)
			}
		}
		if string(b) != "abc" {
			t.Errorf("abc was handed in, and is %q", b)
		}
		h.q.Clear()
		for range room {
			h.q.Put(7, b)
		}
		for _, y := range all {
			if string(y) != "xyz" {
				t.Errorf("xyz became %q", y)
			}
		}
	}
}

// R4: queues are apart from each other.
func TestQueuesAreApart(t *testing.T) {
	a, b := made(t, 2), made(t, 3)
	for n := range 4 {
		a.put(1, text(n))
		b.counts()
	}
	b.gets(0, nil, false)
	b.put(1, text(9))
	b.put(7, text(8))
	a.counts()
	a.next(1, string(text(0)))
	b.counts()
	b.clears(2)
	a.counts()
	a.next(1, string(text(1)))
	a.gets(0, nil, false)
}

// What waits no more is kept no more: bytes that were got are the caller's alone, while others of their class still wait.
func TestGetKeepsNothing(t *testing.T) {
	h := made(t, 4)
	for n := range 4 {
		h.q.Put(2, bytes.Repeat(text(n), 100))
	}
	_, b, _ := h.q.Get()
	p := weak.Make(&b[0])
	b = nil
	for range 20 {
		runtime.GC()
		if p.Value() == nil {
			break
		}
	}
	if p.Value() != nil {
		t.Error("the queue keeps what was got")
	}
	h.has(2, 3, 0)
}

// R6: the package calls api alone.
func TestCalls(t *testing.T) {
	files, _ := filepath.Glob("*.go")
	for _, name := range files {
		if strings.HasSuffix(name, "_test.go") {
			continue
		}
		f, e := parser.ParseFile(token.NewFileSet(), name, nil, parser.ImportsOnly)
		if e != nil {
			t.Fatal(e)
		}
		for _, i := range f.Imports {
			if strings.HasPrefix(i.Path.Value, `"gemel/`) && i.Path.Value != `"gemel/api"` {
				t.Errorf("%s imports %s", name, i.Path.Value)
			}
		}
	}
}

// The chapter's example.
func TestExample(t *testing.T) {
	h := made(t, 1000)
	h.puts(0, []byte("a"), ok)
	h.puts(7, []byte("b"), ok)
	h.puts(7, []byte("c"), ok)
	h.next(7, "b")
	h.next(7, "c")
	h.next(0, "a")
}

// FuzzQueue: whatever is called, nothing panics, and the queue answers as the model does.
func FuzzQueue(f *testing.F) {
	f.Add(2, []byte{0, 7, 7, 7, 100, 101, 200, 0, 3, 102})
	f.Add(1000, []byte{9, 99, 8, 0, 0, 0, 100, 255, 100})
	f.Add(0, []byte{})
	f.Fuzz(func(t *testing.T, room int, b []byte) {
		q, e := New(room)
		if room < 1 || room > 1000 {
			if q != nil || e != errArg {
				t.Fatalf("New(%d): %v, %d", room, q, e)
			}
			return
		}
		h := &held{t, q, &model{room: room}}
		for i, x := range b[:min(len(b), 500)] {
			switch {
			case x < 100:
				h.put(int(x%10)-1, b[i:min(len(b), i+int(x)/10)])
			case x < 250:
				h.get()
			default:
				h.clear()
			}
			h.has(int(x%8), h.m.count(int(x%8), waiting), h.m.count(int(x%8), lost))
		}
		h.counts()
		h.empties()
	})
}
