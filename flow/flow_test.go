package flow

import (
	"bytes"
	"go/parser"
	"go/token"
	"maps"
	"math/rand/v2"
	"path/filepath"
	"slices"
	"strings"
	"testing"

	"gemel/api"
)

// P12.1: how many ports and how much room may be; each port of a new bridge is Discarding, and a member of nothing.
func TestNew(t *testing.T) {
	for ports := 1; ports <= 63; ports++ {
		for _, room := range []int{1, 2, 1023, 1024} {
			h := made(t, ports, room)
			h.holds()
			if l := h.b.Vlans().Vlans(); len(l) != 0 {
				t.Fatalf("VLANs of a new bridge: %v", l)
			}
			if n := h.b.Stations().Len(); n != 0 {
				t.Fatalf("stations of a new bridge: %d", n)
			}
			for port := 1; port <= ports; port++ {
				h.takes(port, frame(2, 1), 0, ofState, 0, 0)
				h.sets(port, forwarding, ok)
				h.takes(port, frame(2, 1), 0, ofVlan, 0, 0)
				h.takes(port, tag(frame(2, 1), 1, 0), 0, ofVlan, 0, 0)
			}
			h.takes(ports+1, frame(2, 1), 0, bad, 0, 0)
		}
	}
}

// P12.1, R1: how many may not.
func TestNewRefuses(t *testing.T) {
	refused := func(ports, room int) {
		t.Helper()
		if b, e := New(ports, room); b != nil || e != errArg {
			t.Errorf("New(%d, %d): %v, %d, must be nothing, %d", ports, room, b, e, errArg)
		}
	}
	for _, ports := range append(far(), 0, 64, 65, 127, 128) {
		for _, room := range []int{1, 20, 1024, 0, 1025} {
			refused(ports, room)
		}
	}
	for _, room := range append(far(), 0, 1025, 2048, 1<<16+20) {
		for _, ports := range []int{1, 3, 63} {
			refused(ports, room)
		}
	}
}

// P12.1: the tables are of as many ports, and the port 0, and of just that room.
func TestTablesAreOfThatSize(t *testing.T) {
	for _, ports := range []int{1, 2, 62, 63} {
		h := made(t, ports, 3)
		for port := 0; port <= ports; port++ {
			h.is("Add", h.b.Vlans().Add(1, port, false), ok)
		}
		h.is("Add below the ports", h.b.Vlans().Add(1, -1, false), errArg)
		h.is("Add above the ports", h.b.Vlans().Add(1, ports+1, false), errArg)
	}
	for _, room := range []int{1, 2, 1023, 1024} {
		h := made(t, 1, room)
		for n := range room {
			h.is("Put", h.b.Stations().Put(1, addr(n), 1), ok)
		}
		h.is("Put into a full table", h.b.Stations().Put(1, addr(room), 1), errFull)
	}
}

// P12.1: the same tables at each call, whatever was done in between.
func TestTablesAreTheSame(t *testing.T) {
	h := made(t, 3, 20)
	vlans, stations := h.b.Vlans(), h.b.Stations()
	if vlans == nil || stations == nil {
		t.Fatal("no tables")
	}
	for port := 1; port <= 3; port++ {
		h.add(10, port, port == 2)
		h.native(port, 10)
		h.set(port, forwarding)
		h.take(port, frame(2, 1), 5)
		h.relay(10, port, 0, frame(2, 1))
		if h.b.Vlans() != vlans || h.b.Stations() != stations {
			t.Fatal("other tables at a later call")
		}
	}
	if l := vlans.Members(10); !slices.Equal(l, []int{1, 2, 3}) {
		t.Errorf("members: %v", l)
	}
	if x, is := stations.Look(10, addr(1)); !is || x.Port != 3 || x.At != 5 {
		t.Errorf("the station 1: %v, %t", x, is)
	}
}

// P12.1: what is done to Vlans from outside counts at once.
func TestVlansFromOutside(t *testing.T) {
	h := made(t, 3, 20)
	for port := 1; port <= 3; port++ {
		h.set(port, forwarding)
	}
	f := frame(2, 1)
	h.takes(1, f, 0, ofVlan, 0, 0)
	h.native(1, 10)
	h.takes(1, f, 0, ofVlan, 0, 0)
	h.add(10, 1, false)
	h.takes(1, f, 0, none, 10, 0)
	h.add(10, 3, false)
	h.takes(1, f, 0, sent, 10, 0, 3)
	h.add(10, 2, true)
	h.takes(1, f, 0, sent, 10, 0, 2, 3)
	h.add(10, 3, true)
	h.takes(1, f, 0, sent, 10, 0, 2, 3)
	h.relays(10, 0, 0, f, 1, 2, 3)
	h.remove(10, 2)
	h.takes(1, f, 0, sent, 10, 0, 3)
	h.relays(10, 0, 0, f, 1, 3)
	h.native(1, 20)
	h.takes(1, f, 0, ofVlan, 0, 0)
	h.takes(1, tag(f, 10, 0), 0, sent, 10, 0, 3)
	h.add(20, 1, false)
	h.takes(1, f, 0, none, 20, 0)
	h.remove(10, 1)
	h.takes(1, tag(f, 10, 0), 0, ofVlan, 0, 0)
	h.remove(10, 3)
	h.relays(10, 0, 0, f)
	h.counted(map[int]int{ofVlan: 4, none: 2, sent: 5})
}

// P12.1: what is done to Stations from outside counts at once, and is not counted in Learned.
func TestStationsFromOutside(t *testing.T) {
	h := ready(t, 4, 20)
	f := frame(2, 1)
	h.takes(1, f, 5, sent, 10, 0, 2, 3, 4)
	h.note(api.Entry{Vlan: 10, Mac: addr(2), Port: 3, At: 5})
	h.takes(1, f, 5, sent, 10, 3, 3)
	h.note(api.Entry{Vlan: 10, Mac: addr(2), Port: 2, At: 6})
	h.takes(1, f, 6, sent, 10, 2, 2)
	h.note(api.Entry{Vlan: 10, Mac: addr(2), Port: 4, Static: true})
	h.takes(1, f, 6, sent, 10, 4, 4)
	h.forget(10, addr(2))
	h.takes(1, f, 6, sent, 10, 0, 2, 3, 4)
	h.note(api.Entry{Vlan: 20, Mac: addr(2), Port: 4, Static: true}) // of another VLAN
	h.takes(1, f, 6, sent, 10, 0, 2, 3, 4)
	h.hasLearned(1, 0, 0)
	for _, forget := range []func() []api.Entry{
		func() []api.Entry { return h.b.Stations().FlushPort(1) },
		func() []api.Entry { return h.b.Stations().FlushVlan(10) },
		func() []api.Entry { return h.b.Stations().Age(16, 10) },
	} {
		h.takes(2, frame(1, 3), 16, sent, 10, 1, 1)
		forget()
		if w := h.b.Take(2, frame(1, 3), 16); w.Cause != sent || w.Target != 0 || len(w.Outs) != 3 {
			t.Fatalf("to a station that is forgotten: %+v", w)
		}
		h.b.Take(1, f, 6)
	}
}

// P12.1: the port 0 of Vlans is no port of the bridge, whatever is done to it there.
func TestPortZero(t *testing.T) {
	h := ready(t, 2, 20)
	h.add(10, 0, true)
	h.add(20, 0, false)
	h.add(20, 1, false)
	h.native(0, 10)
	h.sets(0, forwarding, errArg)
	h.sets(0, discarding, errArg)
	h.takes(0, frame(2, 1), 0, bad, 0, 0)
	h.takes(0, tag(frame(2, 1), 10, 0), 0, bad, 0, 0)
	h.takes(1, frame(2, 1), 0, sent, 10, 0, 2)
	h.takes(1, tag(frame(2, 1), 20, 0), 0, none, 20, 0)
	h.relays(10, 0, 0, frame(2, 1), 1, 2)
	h.relays(10, 1, 0, frame(2, 1), 2)
	h.relays(20, 1, 0, frame(2, 1))
	h.note(api.Entry{Vlan: 10, Mac: addr(2), Port: 0, Static: true})
	h.takes(1, frame(2, 1), 0, none, 10, 0)
	h.holds()
}

// P12.1: each state at each port, from each other one, and that port's alone.
func TestSet(t *testing.T) {
	for _, ports := range []int{1, 3, 63} {
		h := made(t, ports, 1)
		for port := 1; port <= ports; port++ {
			for was := range 3 {
				for state := range 3 {
					h.sets(port, was, ok)
					h.sets(port, state, ok)
					h.holds()
				}
			}
			h.sets(port, port%3, ok)
		}
		h.holds()
	}
}

// P12.1, R1: no such state, or no such port, is refused, and nothing is changed.
func TestSetRefuses(t *testing.T) {
	for _, ports := range []int{1, 3, 63} {
		h := made(t, ports, 1)
		for round := range 3 {
			for port := 1; port <= ports; port++ {
				h.sets(port, (port+round)%3, ok)
			}
			for _, port := range append(far(), 0, ports+1, ports+2, 64) {
				for state := -1; state <= 3; state++ {
					h.sets(port, state, errArg)
				}
				h.holds()
			}
			for _, state := range append(far(), 3, 4, 256, 1<<32) {
				for port := 0; port <= ports+1; port++ {
					h.sets(port, state, errArg)
				}
				h.holds()
			}
		}
	}
}

// P12.1, P1: no port is Discarding.
func TestStateOfNoPort(t *testing.T) {
	for _, ports := range []int{1, 3, 62, 63} {
		h := ready(t, ports, 1)
		for _, port := range append(far(), 0, ports+1, ports+2, 64, 65) {
			if s := h.b.State(port); s != discarding {
				t.Errorf("State(%d) of %d ports: %d", port, ports, s)
			}
		}
	}
}

// P12.2: a port that there is not, a frame that may not be, a number that is no moment.
func TestBad(t *testing.T) {
	for _, ports := range []int{1, 3, 63} {
		h := ready(t, ports, 20)
		for _, port := range append(far(), 0, ports+1, ports+2, 64) {
			h.takes(port, frame(2, 1), 0, bad, 0, 0)
		}
		for _, f := range wrong() {
			h.takes(1, f, 0, bad, 0, 0)
		}
		for _, now := range noMoment() {
			h.takes(1, frame(2, 1), now, bad, 0, 0)
		}
		h.counted(map[int]int{bad: len(far()) + 4 + len(wrong()) + len(noMoment())})
		h.hasLearned(0, 0, 0)
	}
}

// P12.2: each moment that is one, at its edges; an entry's At is that moment.
func TestMoments(t *testing.T) {
	for _, now := range []int{0, 1, 1 << 31, 1 << 32, maxTime - 1, maxTime} {
		h := ready(t, 2, 20)
		h.takes(1, frame(2, 1), now, sent, 10, 0, 2)
		if x, is := h.b.Stations().Look(10, addr(1)); !is || x != (api.Entry{Vlan: 10, Mac: addr(1), Port: 1, At: now}) {
			t.Errorf("learned at %d: %v, %t", now, x, is)
		}
		h.holds()
	}
}

// P12.2: all that may be in a frame, at its edges, goes through.
func TestFramesThatMayBe(t *testing.T) {
	h := ready(t, 3, 20)
	h.add(4094, 1, true)
	h.add(4094, 3, true)
	for _, kind := range []int{0x600, 0x800, 0x80ff, 0x8101, 0xffff} {
		for _, body := range [][]byte{nil, {}, {5}, make([]byte, 1500)} {
			f := frame(2, 1)
			f.Type, f.Body = kind, body
			h.takes(1, f, 0, sent, 10, 0, 2, 3)
			for prio := range 8 {
				h.takes(1, tag(f, 0, prio), 0, sent, 10, 0, 2, 3)
				h.takes(1, tag(f, 10, prio), 0, sent, 10, 0, 2, 3)
				h.takes(1, tag(f, 4094, prio), 0, sent, 4094, 0, 3)
			}
		}
	}
}

// P12.2: an address that bridges keep, and its neighbours, that are of many.
func TestKept(t *testing.T) {
	h := ready(t, 3, 20)
	for _, dst := range reserved() {
		h.takes(1, to(dst), 0, kept, 0, 0)
		h.takes(1, tag(to(dst), 10, 7), 0, kept, 0, 0)
	}
	h.counted(map[int]int{kept: 32})
	h.hasLearned(0, 0, 0)
	for _, dst := range many() {
		h.takes(1, to(dst), 0, sent, 10, 0, 2, 3)
	}
	f := frame(2, 0)
	f.Src = reserved()[0] // of many, and not kept as a Src
	h.takes(1, f, 0, ofSource, 10, 0)
	h.takes(1, to(api.Mac{0, 0x80, 0xc2, 0, 0, 0}), 0, sent, 10, 0, 2, 3)
}

// P12.2: a port that is Discarding takes nothing, and learns nothing; one that is Learning takes, and learns.
func TestStates(t *testing.T) {
	for _, port := range []int{1, 2, 63} {
		h := ready(t, 63, 20)
		h.set(port, discarding)
		h.takes(port, frame(2, 1), 0, ofState, 0, 0)
		h.takes(port, tag(frame(2, 1), 10, 1), 0, ofState, 0, 0)
		h.counted(map[int]int{ofState: 2})
		h.hasLearned(0, 0, 0)
		h.set(port, learning)
		h.takes(port, frame(2, 1), 0, learns, 10, 0)
		h.hasLearned(1, 0, 0)
		h.set(port, forwarding)
		if w := h.take(port, frame(2, 1), 0); w.Cause != sent || len(w.Outs) != 62 {
			t.Fatalf("at the port %d: %+v", port, w)
		}
	}
}

// P12.2: a frame of no VLAN there, and one of a VLAN of which the port is no member.
func TestOfNoVlan(t *testing.T) {
	h := ready(t, 4, 20)
	h.native(2, 0)  // none, but a member of 10
	h.native(3, 20) // one of which it is no member
	h.remove(10, 4)
	h.add(30, 1, true)
	for prio := range 8 {
		for _, port := range []int{2, 3, 4} {
			h.takes(port, frame(2, 1), 0, ofVlan, 0, 0)
			h.takes(port, tag(frame(2, 1), 0, prio), 0, ofVlan, 0, 0)
			h.takes(port, tag(frame(2, 1), 30, prio), 0, ofVlan, 0, 0)
		}
		h.takes(4, tag(frame(2, 1), 10, prio), 0, ofVlan, 0, 0)
		h.takes(1, tag(frame(2, 1), 4094, prio), 0, ofVlan, 0, 0)
		h.hasLearned(0, 0, 0)
	}
	h.takes(2, tag(frame(2, 1), 10, 0), 0, sent, 10, 0, 1, 3)
	h.takes(3, tag(frame(2, 1), 10, 0), 0, sent, 10, 0, 1, 2)
}

// P12.2: a frame from an address of many is of its VLAN, and learned nowhere.
func TestSourceOfMany(t *testing.T) {
	h := ready(t, 3, 20)
	h.add(20, 1, true)
	for _, src := range append(many(), reserved()...) {
		f := frame(2, 1)
		f.Src = src
		h.takes(1, f, 0, ofSource, 10, 0)
		h.takes(1, tag(f, 20, 3), 0, ofSource, 20, 0)
		h.takes(1, tag(f, 0, 3), 0, ofSource, 10, 0)
	}
	h.counted(map[int]int{ofSource: 3 * (len(many()) + 16)})
	h.hasLearned(0, 0, 0)
	for _, first := range []byte{0, 2, 4, 254} { // of one station each
		f := frame(9, 0)
		f.Src = api.Mac{first, 1, 1, 1, 1, 1}
		h.takes(1, f, 0, sent, 10, 0, 2, 3)
	}
	h.hasLearned(4, 0, 0)
}

// broken is a frame at the port 1 of a bridge that has just those of the first five causes whose bits are set: the lowest bit is of DropBad.
func broken(t *testing.T, bits int, how int) (*held, int, api.Frame, int) {
	h := ready(t, 3, 20)
	port, f, now := 1, frame(2, 1), 5
	if bits&2 != 0 {
		f.Dst = api.Mac{1, 0x80, 0xc2, 0, 0, 14}
	}
	if bits&4 != 0 {
		h.set(1, discarding)
	}
	if bits&8 != 0 {
		f = tag(f, 20, 3)
	}
	if bits&16 != 0 {
		f.Src = api.Mac{3}
	}
	if bits&1 != 0 {
		switch how {
		case 0:
			port = 4
		case 1:
			f.Type = 5
		case 2:
			now = -1
		}
	}
	return h, port, f, now
}

// P12.2: of several causes the first one; behind the first five, and not with one of them, the station is learned.
func TestFirstCause(t *testing.T) {
	for bits := range 32 {
		for how := range 3 {
			h, port, f, now := broken(t, bits, how)
			if bits == 0 {
				h.takes(port, f, now, sent, 10, 0, 2, 3)
				h.hasLearned(1, 0, 0)
				continue
			}
			want, vlan := 1, 0
			for bits>>(want-1)&1 == 0 {
				want++
			}
			if want == ofSource {
				vlan = 10
			}
			h.takes(port, f, now, want, vlan, 0)
			h.counted(map[int]int{want: 1})
			h.hasLearned(0, 0, 0)
			if n := h.b.Stations().Len(); n != 0 {
				t.Fatalf("%d stations learned with the cause %d", n, want)
			}
		}
	}
}

// P12.2: of the last three causes the first one, too; the station is learned with each of them.
func TestFirstCauseBehindLearning(t *testing.T) {
	for bits := range 8 {
		h := ready(t, 3, 20)
		want, target := sent, 2
		h.note(api.Entry{Vlan: 10, Mac: addr(2), Port: 2, At: 1})
		if bits&4 != 0 {
			h.set(2, learning)
			h.set(3, discarding)
			want = none
		}
		if bits&2 != 0 {
			h.note(api.Entry{Vlan: 10, Mac: addr(2), Port: 1, At: 1})
			want, target = back, 0
		}
		if bits&1 != 0 {
			h.set(1, learning)
			want, target = learns, 0
		}
		if want == sent {
			h.takes(1, frame(2, 1), 5, sent, 10, 2, 2)
		} else {
			h.takes(1, frame(2, 1), 5, want, 10, target)
		}
		h.counted(map[int]int{want: 1})
		h.hasLearned(1, 0, 0)
		if x, is := h.b.Stations().Look(10, addr(1)); !is || x.Port != 1 || x.At != 5 {
			t.Errorf("with the cause %d: %v, %t", want, x, is)
		}
	}
}

// P12.2: the port that but learns sends nothing on, to nobody; what it has learned is known at others.
func TestLearning(t *testing.T) {
	h := ready(t, 3, 20)
	h.set(1, learning)
	h.takes(1, frame(2, 1), 3, learns, 10, 0)
	h.takes(2, frame(9, 2), 3, sent, 10, 0, 3)
	h.takes(1, frame(2, 1), 4, learns, 10, 0)
	h.takes(1, frame(1, 1), 4, learns, 10, 0)
	h.takes(1, to(many()[0]), 4, learns, 10, 0)
	h.takes(3, frame(1, 3), 4, none, 10, 1)
	h.set(1, forwarding)
	h.takes(3, frame(1, 3), 4, sent, 10, 1, 1)
	h.set(3, learning)
	h.takes(3, frame(1, 3), 4, learns, 10, 0)
	h.takes(3, frame(9, 1), 4, learns, 10, 0)
	h.takes(2, frame(1, 2), 4, none, 10, 3)
	h.counted(map[int]int{learns: 6, none: 2, sent: 2})
	h.hasLearned(3, 1, 0)
}

// P12.2: what is known at the port itself does not go back, to whom it goes of many does.
func TestBack(t *testing.T) {
	h := ready(t, 3, 20)
	h.takes(1, frame(9, 2), 0, sent, 10, 0, 2, 3)
	h.takes(1, frame(2, 1), 0, back, 10, 0)
	h.takes(2, frame(9, 2), 0, sent, 10, 0, 1, 3)
	h.takes(1, frame(2, 1), 0, sent, 10, 2, 2)
	h.takes(2, frame(2, 3), 0, back, 10, 0)
	h.note(api.Entry{Vlan: 10, Mac: addr(8), Port: 1, Static: true})
	h.takes(1, frame(8, 1), 0, back, 10, 0)
	for _, dst := range many() {
		h.takes(1, to(dst), 0, sent, 10, 0, 2, 3)
	}
	for port := 2; port <= 3; port++ {
		h.set(port, discarding)
	}
	h.takes(1, frame(8, 1), 0, back, 10, 0) // ahead of there being no port
	h.counted(map[int]int{back: 4, sent: 3 + len(many())})
}

// P12.2: a frame from a station to itself: it has just been seen where it came in.
func TestToItself(t *testing.T) {
	h := ready(t, 3, 20)
	h.takes(1, frame(1, 1), 0, back, 10, 0)
	h.takes(2, frame(1, 1), 0, back, 10, 0)
	h.hasLearned(1, 1, 0)
	h.note(api.Entry{Vlan: 10, Mac: addr(4), Port: 3, Static: true}) // it stays elsewhere
	h.takes(1, frame(4, 4), 0, sent, 10, 3, 3)
	h = ready(t, 3, 1)
	h.takes(1, frame(1, 1), 0, back, 10, 0)
	h.takes(1, frame(2, 2), 0, sent, 10, 0, 2, 3) // no room for it
	h.hasLearned(1, 0, 1)
}

// P12.2: a station that is known at a port that may not send to it: no member, or not Forwarding, or none of the bridge.
func TestTargetThatMayNotSend(t *testing.T) {
	for port := 2; port <= 4; port++ {
		h := ready(t, 4, 20)
		h.takes(port, frame(9, 2), 0, sent, 10, 0, slices.DeleteFunc([]int{1, 2, 3, 4}, func(p int) bool { return p == port })...)
		h.set(port, learning)
		h.takes(1, frame(2, 1), 0, none, 10, port)
		h.set(port, discarding)
		h.takes(1, frame(2, 1), 0, none, 10, port)
		h.set(port, forwarding)
		h.takes(1, frame(2, 1), 0, sent, 10, port, port)
		h.remove(10, port)
		h.takes(1, frame(2, 1), 0, none, 10, port)
		h.add(20, port, true) // of another VLAN alone
		h.takes(1, frame(2, 1), 0, none, 10, port)
		h.add(10, port, true)
		h.takes(1, frame(2, 1), 0, sent, 10, port, port)
		h.counted(map[int]int{sent: 3, none: 4})
	}
}

// P12.2: a station that is known at the port 0, or at one that the bridge has not, goes nowhere, and to no other port in its place.
func TestTargetThatIsNone(t *testing.T) {
	for _, port := range []int{0, 4, 5, 63, 64, 1000} {
		for _, static := range []bool{false, true} {
			h := ready(t, 3, 20)
			h.add(10, 0, false)
			h.note(api.Entry{Vlan: 10, Mac: addr(2), Port: port, Static: static})
			for p := 1; p <= 3; p++ {
				h.takes(p, frame(2, 1), 0, none, 10, port)
			}
			h.takes(1, frame(3, 1), 0, sent, 10, 0, 2, 3)
			h.counted(map[int]int{none: 3, sent: 1})
		}
	}
}

// P12.2: what goes to many goes out wherever it may, and has no target, also where all is known.
func TestToMany(t *testing.T) {
	h := ready(t, 5, 20)
	h.set(3, learning)
	h.set(4, discarding)
	for port := 1; port <= 5; port++ {
		h.take(port, frame(9, port), 0)
	}
	for _, dst := range many() {
		h.takes(1, to(dst), 0, sent, 10, 0, 2, 5)
		h.takes(5, to(dst), 0, sent, 10, 0, 1, 2)
		h.takes(3, to(dst), 0, learns, 10, 0)
	}
	h.remove(10, 2)
	h.set(5, learning)
	for _, dst := range many() {
		h.takes(1, to(dst), 0, none, 10, 0)
	}
}

// P12.2: a station that nobody knows: all but the port that may send, and none if there is none.
func TestToNobodyKnown(t *testing.T) {
	h := ready(t, 1, 20)
	h.takes(1, frame(2, 1), 0, none, 10, 0)
	h = ready(t, 4, 20)
	h.takes(2, frame(2, 1), 0, sent, 10, 0, 1, 3, 4)
	h.set(1, discarding)
	h.takes(2, frame(2, 1), 0, sent, 10, 0, 3, 4)
	h.set(3, learning)
	h.takes(2, frame(2, 1), 0, sent, 10, 0, 4)
	h.remove(10, 4)
	h.takes(2, frame(2, 1), 0, none, 10, 0)
	h.counted(map[int]int{sent: 3, none: 1})
	h.note(api.Entry{Vlan: 20, Mac: addr(2), Port: 1}) // known of another VLAN
	h.set(1, forwarding)
	h.set(3, forwarding)
	h.takes(2, frame(2, 1), 0, sent, 10, 0, 1, 3)
}

// outAt tells what goes out at the only port, or fails.
func outAt(t *testing.T, l []api.Out, port int) api.Frame {
	t.Helper()
	for _, o := range l {
		if o.Port == port {
			return o.Frame
		}
	}
	t.Fatalf("nothing goes out at %d: %+v", port, l)
	return api.Frame{}
}

// P12.2, P12.3: at each port with a tag or without, as it is a member there; the Prio of a tag stays.
func TestOutsAsVlanHasThem(t *testing.T) {
	h := ready(t, 4, 20)
	h.add(10, 2, true)
	h.add(20, 1, true)
	h.add(20, 2, false)
	h.add(20, 3, true)
	for prio := range 8 {
		plain := frame(2, 1)
		for _, x := range []struct {
			f          api.Frame
			vlan, prio int
		}{{plain, 10, 0}, {tag(plain, 0, prio), 10, prio}, {tag(plain, 10, prio), 10, prio}, {tag(plain, 20, prio), 20, prio}} {
			w := h.take(1, x.f, 0)
			l := h.relay(x.vlan, 1, 0, x.f)
			if !sameOuts(w.Outs, l) {
				t.Fatalf("Take and Relay differ: %+v, %+v", w.Outs, l)
			}
			want := map[int]api.Frame{2: tag(plain, 10, x.prio), 3: plain, 4: plain}
			if x.vlan == 20 {
				want = map[int]api.Frame{2: plain, 3: tag(plain, 20, x.prio)}
			}
			if len(l) != len(want) {
				t.Fatalf("%+v goes out as %+v", x.f, l)
			}
			for port, f := range want {
				if g := outAt(t, w.Outs, port); !same(g, f) {
					t.Errorf("%+v goes out at %d as %+v, must be %+v", x.f, port, g, f)
				}
			}
		}
	}
}

// P12.2: what goes to one port alone goes out with a tag or without, too.
func TestOutOfTarget(t *testing.T) {
	h := ready(t, 3, 20)
	h.add(10, 2, true)
	h.take(2, frame(9, 2), 0)
	h.take(3, frame(9, 3), 0)
	w := h.take(1, frame(2, 1), 0)
	if len(w.Outs) != 1 || !same(outAt(t, w.Outs, 2), tag(frame(2, 1), 10, 0)) {
		t.Errorf("with a tag: %+v", w)
	}
	w = h.take(1, tag(frame(3, 1), 10, 6), 0)
	if len(w.Outs) != 1 || !same(outAt(t, w.Outs, 3), frame(3, 1)) {
		t.Errorf("without one: %+v", w)
	}
}

// P12.2: rising, whatever the order in which the ports were made members and Forwarding.
func TestRising(t *testing.T) {
	r := rand.New(rand.NewPCG(12, 1))
	for range 60 {
		ports := 1 + r.IntN(63)
		h := made(t, ports, 20)
		var want []int
		for _, p := range r.Perm(ports) {
			h.set(p+1, r.IntN(3))
		}
		for _, p := range r.Perm(ports) {
			if r.IntN(4) > 0 {
				h.add(10, p+1, r.IntN(2) == 0)
			}
		}
		from := 1 + r.IntN(ports)
		for p := 1; p <= ports; p++ {
			if p != from && h.m.member(10, p) && h.m.states[p] == forwarding {
				want = append(want, p)
			}
		}
		h.relays(10, from, 0, frame(2, 1), want...)
		h.set(from, forwarding)
		h.add(10, from, true)
		cause := sent
		if len(want) == 0 {
			cause = none
		}
		h.takes(from, tag(frame(2, 1), 10, 5), 0, cause, 10, 0, want...)
	}
}

// P12.2: VLAN and target with each cause, and its number in api.
func TestEachCause(t *testing.T) {
	h := ready(t, 5, 20)
	h.set(4, discarding)
	h.set(5, learning)
	h.note(api.Entry{Vlan: 10, Mac: addr(1), Port: 1, Static: true})
	h.note(api.Entry{Vlan: 10, Mac: addr(3), Port: 3, Static: true})
	h.note(api.Entry{Vlan: 10, Mac: addr(4), Port: 4, Static: true})
	group := frame(3, 0)
	group.Src = many()[0]
	h.takes(1, frame(9, 6), 0, api.Sent, 10, 0, 2, 3)
	h.takes(1, frame(3, 6), 0, api.Sent, 10, 3, 3)
	h.takes(6, frame(3, 6), 0, api.DropBad, 0, 0)
	h.takes(1, to(reserved()[14]), 0, api.DropKept, 0, 0)
	h.takes(4, frame(3, 6), 0, api.DropState, 0, 0)
	h.takes(1, tag(frame(3, 6), 11, 0), 0, api.DropVlan, 0, 0)
	h.takes(1, group, 0, api.DropSource, 10, 0)
	h.takes(5, frame(3, 6), 0, api.DropLearn, 10, 0)
	h.takes(1, frame(1, 6), 0, api.DropBack, 10, 0)
	h.takes(1, frame(4, 6), 0, api.DropNone, 10, 4)
	h.counted(map[int]int{0: 2, 1: 1, 2: 1, 3: 1, 4: 1, 5: 1, 6: 1, 7: 1, 8: 1})
	h.set(2, discarding)
	h.set(3, discarding)
	h.takes(1, frame(9, 6), 0, api.DropNone, 10, 0)
	h.counted(map[int]int{0: 2, 1: 1, 2: 1, 3: 1, 4: 1, 5: 1, 6: 1, 7: 1, 8: 2})
}

// P12.2, P12.3: a table that is full learns nobody new, and all else stays as it is.
func TestFull(t *testing.T) {
	for _, room := range []int{1, 2, 5} {
		h := ready(t, 3, room)
		for n := range room {
			h.takes(1, frame(99, 10+n), n, sent, 10, 0, 2, 3)
		}
		h.hasLearned(room, 0, 0)
		h.takes(2, frame(99, 50), 20, sent, 10, 0, 1, 3)
		h.takes(2, frame(10, 50), 20, sent, 10, 1, 1)
		h.takes(3, frame(50, 51), 20, sent, 10, 0, 1, 2)
		h.hasLearned(room, 0, 3)
		h.takes(1, frame(99, 10), 21, sent, 10, 0, 2, 3) // known yet, at the same port
		h.hasLearned(room, 0, 3)
		h.takes(2, frame(99, 10), 22, sent, 10, 0, 1, 3) // and at another one
		h.hasLearned(room, 1, 3)
		h.set(3, learning)
		h.takes(3, frame(10, 52), 22, learns, 10, 0)
		h.hasLearned(room, 1, 4)
		h.forget(10, addr(10))
		h.takes(3, frame(99, 52), 23, learns, 10, 0)
		h.hasLearned(room+1, 1, 4)
	}
}

// P12.2: an entry that was put is not moved by learning, and that is not counted.
func TestStaticStays(t *testing.T) {
	h := ready(t, 3, 1)
	h.note(api.Entry{Vlan: 10, Mac: addr(2), Port: 3, Static: true})
	for _, port := range []int{1, 2, 3} {
		h.take(port, frame(9, 2), 7)
		h.hasLearned(0, 0, 0)
	}
	h.takes(1, frame(2, 1), 8, sent, 10, 3, 3)
	h.hasLearned(0, 0, 1)
	if x, is := h.b.Stations().Look(10, addr(2)); !is || x != (api.Entry{Vlan: 10, Mac: addr(2), Port: 3, Static: true}) {
		t.Errorf("the entry that was put: %v, %t", x, is)
	}
}

// P12.2: a station is one by its VLAN: it may be known at two ports.
func TestStationsByVlan(t *testing.T) {
	h := ready(t, 3, 20)
	for port := 1; port <= 3; port++ {
		h.add(20, port, true)
	}
	h.takes(1, frame(9, 5), 0, sent, 10, 0, 2, 3)
	h.takes(2, tag(frame(9, 5), 20, 0), 0, sent, 20, 0, 1, 3)
	h.hasLearned(2, 0, 0)
	h.takes(3, frame(5, 6), 0, sent, 10, 1, 1)
	h.takes(3, tag(frame(5, 6), 20, 0), 0, sent, 20, 2, 2)
}

// P12.3: from each port, to all.
func TestRelayFrom(t *testing.T) {
	h := ready(t, 4, 20)
	all := []int{1, 2, 3, 4}
	for from := 1; from <= 4; from++ {
		h.relays(10, from, 0, frame(2, 1), slices.DeleteFunc(slices.Clone(all), func(p int) bool { return p == from })...)
	}
	for _, from := range append(far(), 0, 5, 6, 64) {
		h.relays(10, from, 0, frame(2, 1), all...)
	}
	h.set(2, learning)
	h.set(3, discarding)
	h.relays(10, 4, 0, frame(2, 1), 1)
	h.relays(10, 2, 0, frame(2, 1), 1, 4) // whatever that port's own state is
	h.relays(10, 3, 0, frame(2, 1), 1, 4)
	h.remove(10, 1)
	h.relays(10, 1, 0, frame(2, 1), 4) // and whether it is a member
	h.relays(10, 4, 0, frame(2, 1))
}

// P12.3: to a target alone, if it may send and is not the port itself.
func TestRelayTarget(t *testing.T) {
	h := ready(t, 4, 20)
	h.add(10, 0, true)
	h.set(3, learning)
	h.remove(10, 4)
	for from := 0; from <= 5; from++ {
		for target := 1; target <= 5; target++ {
			var want []int
			if target <= 2 && target != from {
				want = []int{target}
			}
			h.relays(10, from, target, frame(2, 1), want...)
		}
		for _, target := range append(far(), 6, 63, 64, 1000) {
			h.relays(10, from, target, frame(2, 1))
		}
	}
	h.set(2, discarding)
	h.relays(10, 1, 2, frame(2, 1))
	h.set(3, forwarding)
	h.relays(10, 1, 3, frame(2, 1), 3)
}

// P12.3: to whom it goes is told by target alone, not by what is known, nor by the frame's own addresses or tag.
func TestRelayAsTold(t *testing.T) {
	h := ready(t, 4, 20)
	h.add(10, 3, true)
	h.note(api.Entry{Vlan: 10, Mac: addr(2), Port: 2, Static: true})
	h.relays(10, 1, 0, frame(2, 1), 2, 3, 4)
	h.relays(10, 1, 3, frame(2, 1), 3)
	for _, dst := range append(many(), reserved()...) {
		h.relays(10, 1, 0, to(dst), 2, 3, 4)
		h.relays(10, 1, 4, to(dst), 4)
	}
	f := tag(frame(2, 1), 20, 5)
	f.Src = many()[0]
	h.relays(10, 1, 0, f, 2, 3, 4)
	l := h.b.Relay(10, 1, 0, f)
	f.Vlan = 10
	if g := outAt(t, l, 3); !same(g, f) {
		t.Errorf("a frame of another VLAN's tag goes out as %+v, must be %+v", g, f)
	}
}

// P12.3: a frame that may not be, and a VLAN that is none, or that has no members, go nowhere.
func TestRelayRefuses(t *testing.T) {
	h := ready(t, 4, 20)
	h.add(10, 2, true)
	for _, f := range wrong() {
		h.relays(10, 1, 0, f)
		h.relays(10, 1, 2, f)
		h.relays(10, 1, 3, f)
	}
	for _, vlan := range append(far(), 0, 4095, 4096+10) {
		h.relays(vlan, 1, 0, frame(2, 1))
		h.relays(vlan, 1, 2, frame(2, 1))
	}
	for _, vlan := range []int{1, 9, 11, 4094} {
		h.relays(vlan, 1, 0, frame(2, 1))
		h.relays(vlan, 1, 2, frame(2, 1))
	}
	h.add(1, 3, true)
	h.add(4094, 4, false)
	h.relays(1, 1, 0, frame(2, 1), 3)
	h.relays(4094, 1, 0, frame(2, 1), 4)
}

// P12.3: each cause is counted by its number, each frame once.
func TestCounts(t *testing.T) {
	h := ready(t, 3, 20)
	want := map[int]int{}
	step := func(cause, times int) {
		h.t.Helper()
		want[cause] += times
		h.counted(want)
	}
	for round := 1; round <= 3; round++ {
		for range round {
			h.take(4, frame(2, 1), 0)
			step(bad, 1)
			h.take(1, to(reserved()[3]), 0)
			step(kept, 1)
			h.take(1, tag(frame(2, 1), 11, 0), 0)
			step(ofVlan, 1)
			h.take(1, frame(1, 1), 0)
			step(back, 1)
			h.take(1, frame(2, 1), 0)
			step(sent, 1)
		}
		h.set(1, discarding)
		h.take(1, frame(2, 1), 0)
		step(ofState, 1)
		h.set(1, learning)
		h.take(1, frame(2, 1), 0)
		step(learns, 1)
		h.take(2, frame(1, 2), 0)
		step(none, 1)
		h.forget(10, addr(2))
		h.set(1, forwarding)
		f := frame(2, 1)
		f.Src = many()[2]
		h.take(1, f, 0)
		step(ofSource, 1)
	}
	h.hasLearned(4, 0, 0)
}

// P12.3: how often learning was Fresh, Moved, or found no room; Same is not counted.
func TestLearned(t *testing.T) {
	h := ready(t, 3, 2)
	h.hasLearned(0, 0, 0)
	h.take(1, frame(9, 1), 0)
	h.hasLearned(1, 0, 0)
	h.take(1, frame(9, 1), 5)
	h.hasLearned(1, 0, 0)
	h.take(2, frame(9, 1), 6)
	h.hasLearned(1, 1, 0)
	h.take(1, frame(9, 1), 6)
	h.hasLearned(1, 2, 0)
	h.take(1, frame(9, 2), 6)
	h.hasLearned(2, 2, 0)
	h.take(1, frame(9, 3), 6)
	h.hasLearned(2, 2, 1)
	h.forget(10, addr(2))
	h.take(1, frame(9, 3), 6)
	h.hasLearned(3, 2, 1)
	h.take(1, frame(9, 2), 6)
	h.hasLearned(3, 2, 2)
}

// P12.3: Relay, Set, State and what tells of tables count nothing, and learn nothing.
func TestOthersCountNothing(t *testing.T) {
	h := ready(t, 3, 20)
	h.take(1, frame(9, 2), 0)
	for range 5 {
		h.relay(10, 1, 0, frame(2, 3))
		h.relay(10, 1, 2, frame(2, 3))
		h.relay(10, 1, 9, frame(2, 3))
		h.relay(0, 1, 0, wrong()[0])
		h.set(2, learning)
		h.set(2, forwarding)
		h.set(0, forwarding)
		h.b.State(1)
		h.b.State(7)
		h.b.Vlans()
		h.b.Stations()
		h.b.Counts()
		h.b.Learned()
	}
	h.counted(map[int]int{sent: 1})
	h.hasLearned(1, 0, 0)
}

// call is one call at a bridge and its model, told by bytes: mostly such as may be, and few enough to meet again.
func call(h *held, b [7]byte) {
	port := []int{1, 2, 3, 4, 5, 6, 7, 8, 1, 2, 3, 4, 0, h.m.ports, h.m.ports + 1, -1}[b[1]%16]
	vlan := []int{10, 20, 10, 20, 10, 20, 30, 0, 10, 20, 10, 10, 20, 4094, 4095, -1}[b[2]%16]
	f := frame(int(b[3]%8), int(b[4]%8))
	switch {
	case b[3] >= 250:
		f.Dst = many()[b[3]-250]
	case b[3] >= 248:
		f.Dst = reserved()[b[4]%16]
	}
	if b[4] >= 250 {
		f.Src = many()[b[4]-250]
	}
	if b[5]%2 == 0 {
		f = tag(f, vlan, int(b[5]/2%8))
	}
	if b[5] >= 250 {
		f = wrong()[b[3]%byte(len(wrong()))]
	}
	now := int(b[6])
	if b[6] >= 250 {
		now = []int{-1, maxTime - 1, maxTime, maxTime + 1, 0, 0}[b[6]-250]
	}
	act(h, b, port, vlan, f, now)
}

// act does what the first byte tells.
func act(h *held, b [7]byte, port, vlan int, f api.Frame, now int) {
	entry := api.Entry{Vlan: 10 + int(b[2]%2)*10, Mac: addr(int(b[4] % 8)), Port: int(b[1] % 10)}
	switch b[0] % 20 {
	case 0, 1:
		h.add(vlan, port, b[5]%2 == 0)
	case 2:
		h.remove(vlan, port)
	case 3:
		h.native(port, vlan)
	case 4, 5, 6:
		h.set(port, []int{2, 2, 1, 2, 0, 2, 3, -1}[b[3]%8])
	case 7:
		entry.Static = true
		h.note(entry)
	case 8:
		entry.At = int(b[6])
		h.note(entry)
	case 9:
		h.forget(entry.Vlan, entry.Mac)
	case 10, 11:
		target := []int{0, 0, 1, 2, 3, 4, port, -1}[b[3]%8]
		h.relay(vlan, port, target, f)
	default:
		h.take(port, f, now)
	}
}

func anyCall(r *rand.Rand) [7]byte {
	var b [7]byte
	for i := range b {
		b[i] = byte(r.Uint32())
	}
	return b
}

// anyBridge is one of some ports, most of which are members and Forwarding.
func anyBridge(t testing.TB, r *rand.Rand) *held {
	h := made(t, 1+r.IntN(8), 1+r.IntN(20))
	for port := 1; port <= h.m.ports; port++ {
		for _, vlan := range []int{10, 20} {
			if r.IntN(5) > 0 {
				h.add(vlan, port, r.IntN(2) == 0)
			}
		}
		h.native(port, []int{10, 20, 30, 0}[r.IntN(4)])
		h.set(port, []int{2, 2, 2, 1, 0}[r.IntN(5)])
	}
	return h
}

// P12.1 to P12.3, R4: whatever is called, in any order, the bridge answers as the model does, that hangs on nothing else.
func TestAnyCalls(t *testing.T) {
	r := rand.New(rand.NewPCG(12, 2))
	var counts [9]int
	for range 300 {
		h := anyBridge(t, r)
		for range 300 {
			call(h, anyCall(r))
		}
		h.holds()
		for cause, n := range h.b.Counts() {
			counts[cause] += n
		}
	}
	if slices.Min(counts[:]) < 100 {
		t.Errorf("some cause is too rare to tell: %v", counts)
	}
}

// theorem holds a way against P12.4's and P3's own words.
func theorem(t *testing.T, b *Bridge, port int, f api.Frame, w api.Way) {
	t.Helper()
	if w.Cause != sent && len(w.Outs) > 0 || w.Cause == sent && len(w.Outs) == 0 {
		t.Fatalf("of the cause %d: %+v", w.Cause, w)
	}
	last := 0
	for _, o := range w.Outs {
		switch {
		case o.Port <= last:
			t.Fatalf("twice at a port, or falling: %+v", w)
		case o.Port == port:
			t.Fatalf("back at %d: %+v", port, w)
		case !slices.Contains(b.Vlans().Members(w.Vlan), o.Port):
			t.Fatalf("at %d, that is no member: %+v", o.Port, w)
		case b.State(o.Port) != forwarding:
			t.Fatalf("at %d, that is not Forwarding: %+v", o.Port, w)
		}
		last = o.Port
	}
	x, is := b.Stations().Look(w.Vlan, f.Dst)
	for _, o := range w.Outs {
		if is && o.Port != x.Port {
			t.Fatalf("known at %d, and sent to %d: %+v", x.Port, o.Port, w)
		}
	}
	if w.Cause == sent && is && w.Target != x.Port {
		t.Fatalf("known at %d, and told to be at %d", x.Port, w.Target)
	}
}

// P12.4, P3: in any order, in many rounds, held against the theorem's words and no model.
func TestTheorem(t *testing.T) {
	r := rand.New(rand.NewPCG(12, 3))
	alone, all := 0, 0
	for range 200 {
		h := anyBridge(t, r)
		for range 200 {
			for range r.IntN(3) {
				call(h, anyCall(r))
			}
			port, f := r.IntN(h.m.ports+2), frame(r.IntN(8), r.IntN(8))
			if r.IntN(2) == 0 {
				f = tag(f, []int{0, 10, 20}[r.IntN(3)], r.IntN(8))
			}
			if r.IntN(4) == 0 {
				f.Dst = many()[r.IntN(len(many()))]
			}
			before := h.b.Counts()
			w := h.take(port, f, 5)
			before[w.Cause]++
			if h.b.Counts() != before {
				t.Fatalf("not one cause: %v behind %+v, must be %v", h.b.Counts(), w, before)
			}
			theorem(t, h.b, port, f, w)
			switch {
			case w.Target > 0 && w.Cause == sent:
				alone++
			case w.Cause == sent:
				all++
			}
		}
	}
	if alone < 1000 || all < 1000 {
		t.Errorf("too few to tell: %d alone, %d to all", alone, all)
	}
}

// P12.4, P3: a station that was seen, and is known yet, has its frames at its port alone, and all of them.
func TestSeenAlone(t *testing.T) {
	r := rand.New(rand.NewPCG(12, 4))
	h := ready(t, 8, 100)
	at := map[int]int{}
	for range 3000 {
		src, port := r.IntN(50), 1+r.IntN(8)
		at[src] = port
		h.take(port, frame(60, src), 0)
		dst, from := r.IntN(50), 1+r.IntN(8)
		at[70] = from
		switch where, is := at[dst]; {
		case !is:
			h.takes(from, frame(dst, 70), 0, sent, 10, 0, slices.DeleteFunc([]int{1, 2, 3, 4, 5, 6, 7, 8}, func(p int) bool { return p == from })...)
		case where == from:
			h.takes(from, frame(dst, 70), 0, back, 10, 0)
		default:
			h.takes(from, frame(dst, 70), 0, sent, 10, where, where)
		}
		if r.IntN(20) == 0 {
			gone := r.IntN(50)
			delete(at, gone)
			h.forget(10, addr(gone))
		}
	}
	if len(slices.Collect(maps.Keys(at))) < 40 {
		t.Error("too few stations to tell")
	}
}

// R3: what is handed in stays as it is.
func TestHandedInStays(t *testing.T) {
	h := ready(t, 4, 20)
	h.add(10, 2, true)
	for _, f := range []api.Frame{frame(2, 1), tag(frame(2, 1), 10, 3), tag(frame(2, 1), 0, 3), to(many()[0])} {
		body := bytes.Clone(f.Body)
		room := append(f.Body, 99, 98)[:len(f.Body)]
		f.Body = room
		for range 3 {
			h.b.Take(1, f, 0)
			h.b.Relay(10, 1, 0, f)
			h.b.Relay(10, 1, 2, f)
		}
		if !bytes.Equal(f.Body, body) || !bytes.Equal(f.Body[:len(body)+2], append(body, 99, 98)) {
			t.Errorf("the Body that was handed in: %v, must be %v", f.Body[:len(body)+2], body)
		}
	}
}

// spoil changes all bytes of a Body, and those that may stand behind it.
func spoil(b []byte) {
	b = b[:cap(b)]
	for i := range b {
		b[i] ^= 0xff
	}
}

// R3: a Body that is changed behind Take or Relay changes nothing that came out, nor does one that came out change the others, or what comes out later.
func TestBodiesAreOwn(t *testing.T) {
	h := ready(t, 5, 20)
	h.add(10, 2, true)
	h.add(10, 4, true)
	h.note(api.Entry{Vlan: 10, Mac: addr(8), Port: 4, Static: true})
	h.note(api.Entry{Vlan: 10, Mac: addr(9), Port: 3, Static: true})
	for _, x := range []struct {
		name string
		of   func(f api.Frame) []api.Out
	}{
		{"Take", func(f api.Frame) []api.Out { return h.b.Take(1, f, 0).Outs }},
		{"Relay", func(f api.Frame) []api.Out { return h.b.Relay(10, 1, 0, f) }},
		{"Relay to a target", func(f api.Frame) []api.Out { return h.b.Relay(10, 1, 4, f) }},
		{"Relay to another one", func(f api.Frame) []api.Out { return h.b.Relay(10, 1, 3, f) }},
	} {
		for _, f := range []api.Frame{frame(2, 1), frame(8, 1), frame(9, 1), tag(frame(2, 1), 10, 3), tag(frame(8, 1), 10, 3), tag(frame(9, 1), 10, 3)} {
			body := bytes.Clone(f.Body)
			l := x.of(f)
			spoil(f.Body)
			bodies(t, x.name+", behind a change of what was handed in", l, body)
			copy(f.Body, body)
			later := x.of(f)
			for i := range l {
				spoil(l[i].Frame.Body)
				bodies(t, x.name+", behind a change of one that came out", l[i+1:], body)
			}
			bodies(t, x.name+", a later one", later, body)
			bodies(t, x.name+", anew", x.of(f), body)
			if !bytes.Equal(f.Body, body) {
				t.Errorf("%s: what was handed in is %v, must be %v", x.name, f.Body, body)
			}
		}
	}
}

// bodies holds that all have that Body.
func bodies(t *testing.T, what string, l []api.Out, body []byte) {
	t.Helper()
	for _, o := range l {
		if !bytes.Equal(o.Frame.Body, body) {
			t.Errorf("%s: at %d %v, must be %v", what, o.Port, o.Frame.Body, body)
		}
	}
}

// R3: lists that came out are the caller's own.
func TestListsAreOwn(t *testing.T) {
	h := ready(t, 4, 20)
	one, other := h.b.Take(1, frame(2, 1), 0).Outs, h.b.Take(1, frame(2, 1), 0).Outs
	three, four := h.b.Relay(10, 1, 0, frame(2, 1)), h.b.Relay(10, 1, 0, frame(2, 1))
	for i := range one {
		one[i], three[i] = api.Out{Port: 77}, api.Out{Port: 77}
	}
	_, _ = append(one[:1], api.Out{Port: 78}), append(three[:1], api.Out{Port: 78})
	for _, l := range [][]api.Out{other, four, h.b.Take(1, frame(2, 1), 0).Outs, h.b.Relay(10, 1, 0, frame(2, 1))} {
		if !slices.Equal(portsOf(l), []int{2, 3, 4}) {
			t.Errorf("changed from outside: %v", portsOf(l))
		}
	}
}

// R3: Counts and Learned that are changed change nothing.
func TestCountsAreOwn(t *testing.T) {
	h := ready(t, 3, 20)
	h.take(1, frame(2, 1), 0)
	counts, learned := h.b.Counts(), h.b.Learned()
	for i := range counts {
		counts[i] += 5
	}
	for i := range learned {
		learned[i] += 5
	}
	h.counted(map[int]int{sent: 1})
	h.hasLearned(1, 0, 0)
	was := h.b.Counts()
	h.take(1, frame(2, 1), 0)
	if was != [9]int{1} {
		t.Errorf("Counts that were told: %v", was)
	}
}

// R4: what is done to one bridge is not done to another one.
func TestBridgesAreApart(t *testing.T) {
	g, h := ready(t, 3, 20), made(t, 3, 20)
	g.take(1, frame(2, 1), 0)
	g.take(9, frame(2, 1), 0)
	if g.b.Vlans() == h.b.Vlans() || g.b.Stations() == h.b.Stations() {
		t.Fatal("two bridges have one table")
	}
	h.counted(nil)
	h.hasLearned(0, 0, 0)
	h.takes(1, frame(2, 1), 0, ofState, 0, 0)
	h.set(1, forwarding)
	h.takes(1, frame(2, 1), 0, ofVlan, 0, 0)
	g.counted(map[int]int{sent: 1, bad: 1})
}

// P12.2: who has heard of enough ports is told of no more.
func TestSendersStop(t *testing.T) {
	h := ready(t, 5, 20)
	var heard []int
	for port := range h.b.senders(10, 2) {
		heard = append(heard, port)
		if len(heard) == 2 {
			break
		}
	}
	if !slices.Equal(heard, []int{1, 3}) {
		t.Errorf("%v, must be 1 and 3", heard)
	}
}

// R6: what this layer calls is what its chapter lists.
func TestCalls(t *testing.T) {
	listed := []string{`"gemel/api"`, `"gemel/mac"`, `"gemel/ether"`, `"gemel/vlan"`, `"gemel/fdb"`}
	files, _ := filepath.Glob("*.go")
	for _, name := range files {
		if strings.HasSuffix(name, "_test.go") {
			continue
		}
		f, e := parser.ParseFile(token.NewFileSet(), name, nil, parser.ImportsOnly)
		if e != nil {
			t.Fatal(e)
		}
		for _, i := range f.Imports {
			if strings.HasPrefix(i.Path.Value, `"gemel/`) && !slices.Contains(listed, i.Path.Value) {
				t.Errorf("%s imports %s", name, i.Path.Value)
			}
		}
	}
}

// The chapter's example.
func TestExample(t *testing.T) {
	h := made(t, 3, 20)
	for port := 1; port <= 3; port++ {
		h.set(port, forwarding)
		h.add(1, port, false)
		h.native(port, 1)
	}
	h.takes(1, frame(2, 1), 0, sent, 1, 0, 2, 3)
	h.takes(2, frame(1, 2), 0, sent, 1, 1, 1)
}

// FuzzBridge: whatever is called, nothing panics, and the bridge answers as the model does.
func FuzzBridge(f *testing.F) {
	f.Add(3, 20, []byte{15, 0, 0, 2, 1, 1, 0, 15, 1, 0, 1, 2, 1, 0})
	f.Add(8, 2, []byte{4, 0, 0, 0, 0, 0, 0, 0, 0, 0, 0, 0, 0, 0, 3, 0, 0, 0, 0, 0, 0, 15, 0, 0, 2, 1, 1, 0})
	f.Fuzz(func(t *testing.T, ports, room int, b []byte) {
		x, e := New(ports, room)
		if ports < 1 || ports > 63 || room < 1 || room > 1024 {
			if x != nil || e != errArg {
				t.Fatalf("New(%d, %d): %v, %d", ports, room, x, e)
			}
			return
		}
		h := made(t, ports, room)
		for port := 1; port <= ports; port += 2 {
			h.add(10, port, port%3 == 0)
			h.native(port, 10)
			h.set(port, forwarding)
		}
		for ; len(b) >= 7; b = b[7:] {
			call(h, [7]byte(b))
		}
		h.holds()
	})
}
