package flow

import (
	"bytes"
	"cmp"
	"math"
	"reflect"
	"slices"
	"testing"

	"gemel/api"
	"gemel/ether"
)

// The errors, as numbers.
const (
	ok      = 0
	errArg  = 1
	errFull = 3
	errNone = 4
)

// The causes, as numbers.
const (
	sent = iota
	bad
	kept
	ofState
	ofVlan
	ofSource
	learns
	back
	none
)

// The states, as numbers.
const (
	discarding = iota
	learning
	forwarding
)

const maxTime = 1 << 40

// station is what an entry is of.
type station struct {
	vlan int
	mac  api.Mac
}

// model is the document's words told in another way than the program's: members, natives and stations of its own, no table of another layer.
type model struct {
	ports, room int
	tags        map[[2]int]bool // by VLAN and port: members, the port 0 too; whether their frames have a tag
	natives     map[int]int
	known       map[station]api.Entry
	states      map[int]int
	counts      [9]int
	learned     [3]int
}

func modelOf(ports, room int) *model {
	return &model{ports: ports, room: room, tags: map[[2]int]bool{}, natives: map[int]int{}, known: map[station]api.Entry{}, states: map[int]int{}}
}

func (m *model) has(port int) bool { return port >= 1 && port <= m.ports }

// place tells whether there is such a VLAN, and such a port of its table.
func (m *model) place(vlan, port int) bool {
	return vlan > 0 && vlan < 4095 && (port == 0 || m.has(port))
}

func (m *model) member(vlan, port int) bool {
	_, is := m.tags[[2]int{vlan, port}]
	return is
}

func (m *model) add(vlan, port int, tagged bool) int {
	if !m.place(vlan, port) {
		return errArg
	}
	m.tags[[2]int{vlan, port}] = tagged
	return ok
}

func (m *model) remove(vlan, port int) int {
	switch {
	case !m.place(vlan, port):
		return errArg
	case !m.member(vlan, port):
		return errNone
	}
	delete(m.tags, [2]int{vlan, port})
	return ok
}

func (m *model) native(port, vlan int) int {
	if !m.place(1, port) || vlan != 0 && !m.place(vlan, 0) {
		return errArg
	}
	m.natives[port] = vlan
	return ok
}

func (m *model) set(port, state int) int {
	if !m.has(port) || state < 0 || state > 2 {
		return errArg
	}
	m.states[port] = state
	return ok
}

// note puts an entry in, unless a Static one stays there, and tells what has come of it: "", "fresh", "moved", "full".
func (m *model) note(x api.Entry) string {
	s := station{x.Vlan, x.Mac}
	was, is := m.known[s]
	switch {
	case was.Static && !x.Static:
		return ""
	case !is && len(m.known) >= m.room:
		return "full"
	}
	m.known[s] = x
	switch {
	case !is:
		return "fresh"
	case was.Port != x.Port:
		return "moved"
	}
	return ""
}

// of is the VLAN that a frame is of at a port, 0 if none.
func (m *model) of(port int, f api.Frame) int {
	vlan := m.natives[port]
	if f.Tagged && f.Vlan > 0 {
		vlan = f.Vlan
	}
	if !m.member(vlan, port) {
		return 0
	}
	return vlan
}

// out is a frame as it goes out at a member.
func (m *model) out(vlan, port int, f api.Frame) api.Out {
	g := api.Frame{Dst: f.Dst, Src: f.Src, Type: f.Type, Body: bytes.Clone(f.Body)}
	if m.tags[[2]int{vlan, port}] {
		g.Tagged, g.Vlan, g.Prio = true, vlan, f.Prio
	}
	return api.Out{Port: port, Frame: g}
}

// outs are those at all ports that may send it, or at one alone.
func (m *model) outs(vlan, from int, alone bool, target int, f api.Frame) []api.Out {
	var l []api.Out
	for port := 1; port <= m.ports; port++ {
		if port == from || alone && port != target || m.states[port] != forwarding || !m.member(vlan, port) {
			continue
		}
		l = append(l, m.out(vlan, port, f))
	}
	return l
}

func (m *model) relay(vlan, from, target int, f api.Frame) []api.Out {
	if !ether.Right(f) {
		return nil
	}
	return m.outs(vlan, from, target != 0, target, f)
}

func (m *model) take(port int, f api.Frame, now int) api.Way {
	w := m.way(port, f, now)
	m.counts[w.Cause]++
	return w
}

func (m *model) way(port int, f api.Frame, now int) api.Way {
	vlan := m.of(port, f)
	for cause, holds := range []bool{
		bad:     !m.has(port) || !ether.Right(f) || now < 0 || now > maxTime,
		kept:    bytes.Equal(f.Dst[:5], []byte{0x01, 0x80, 0xc2, 0, 0}) && f.Dst[5] < 16,
		ofState: m.states[port] == discarding,
		ofVlan:  vlan == 0,
	} {
		if holds {
			return api.Way{Cause: cause}
		}
	}
	if f.Src[0]%2 == 1 {
		return api.Way{Cause: ofSource, Vlan: vlan}
	}
	switch m.note(api.Entry{Vlan: vlan, Mac: f.Src, Port: port, At: now}) {
	case "fresh":
		m.learned[0]++
	case "moved":
		m.learned[1]++
	case "full":
		m.learned[2]++
	}
	to, is := m.known[station{vlan, f.Dst}]
	switch {
	case m.states[port] == learning:
		return api.Way{Cause: learns, Vlan: vlan}
	case is && to.Port == port:
		return api.Way{Cause: back, Vlan: vlan}
	}
	w := api.Way{Vlan: vlan, Target: to.Port, Outs: m.outs(vlan, port, is, to.Port, f)}
	if len(w.Outs) == 0 {
		w.Cause = none
	}
	return w
}

// all are its entries, by VLAN and then by Mac.
func (m *model) all() []api.Entry {
	var l []api.Entry
	for _, x := range m.known {
		l = append(l, x)
	}
	slices.SortFunc(l, func(a, b api.Entry) int {
		return cmp.Or(a.Vlan-b.Vlan, bytes.Compare(a.Mac[:], b.Mac[:]))
	})
	return l
}

// held is a bridge and its model, of which the same is asked.
type held struct {
	t testing.TB
	b *Bridge
	m *model
}

// made is a new bridge of so many ports and so much room.
func made(t testing.TB, ports, room int) *held {
	t.Helper()
	b, e := New(ports, room)
	if e != ok || b == nil {
		t.Fatalf("New(%d, %d): %v, %d", ports, room, b, e)
	}
	return &held{t, b, modelOf(ports, room)}
}

// ready is one whose ports are all Forwarding, and members of the VLAN 10 without a tag, that is native there.
func ready(t testing.TB, ports, room int) *held {
	t.Helper()
	h := made(t, ports, room)
	for port := 1; port <= ports; port++ {
		h.add(10, port, false)
		h.native(port, 10)
		h.set(port, forwarding)
	}
	return h
}

// is holds an error against the one that must be.
func (h *held) is(what string, e api.Errno, want int) {
	h.t.Helper()
	if int(e) != want {
		h.t.Fatalf("%s: %d, must be %d", what, e, want)
	}
}

func (h *held) add(vlan, port int, tagged bool) {
	h.t.Helper()
	h.is("Add", h.b.Vlans().Add(vlan, port, tagged), h.m.add(vlan, port, tagged))
}

func (h *held) remove(vlan, port int) {
	h.t.Helper()
	h.is("Remove", h.b.Vlans().Remove(vlan, port), h.m.remove(vlan, port))
}

func (h *held) native(port, vlan int) {
	h.t.Helper()
	h.is("Native", h.b.Vlans().Native(port, vlan), h.m.native(port, vlan))
}

// set sets a state; sets holds what comes of it, too.
func (h *held) set(port, state int) {
	h.t.Helper()
	h.is("Set", h.b.Set(port, state), h.m.set(port, state))
}

func (h *held) sets(port, state, want int) {
	h.t.Helper()
	h.set(port, state)
	h.is("Set", h.b.Set(port, state), want)
}

// note notes an entry from outside: one that was put, or one that was learned.
func (h *held) note(x api.Entry) {
	h.t.Helper()
	want := ok
	if h.m.note(x) == "full" {
		want = errFull
	}
	if x.Static {
		h.is("Put", h.b.Stations().Put(x.Vlan, x.Mac, x.Port), want)
		return
	}
	_, e := h.b.Stations().Learn(x.Vlan, x.Mac, x.Port, x.At)
	h.is("Learn", e, want)
}

// forget forgets a station from outside.
func (h *held) forget(vlan int, mac api.Mac) {
	h.t.Helper()
	s := station{vlan, mac}
	_, want := h.m.known[s]
	delete(h.m.known, s)
	if is := h.b.Stations().Remove(vlan, mac); is != want {
		h.t.Fatalf("Remove(%d, %v): %t, must be %t", vlan, mac, is, want)
	}
}

// take takes a frame, and tells what must come of it.
func (h *held) take(port int, f api.Frame, now int) api.Way {
	h.t.Helper()
	w, want := h.b.Take(port, f, now), h.m.take(port, f, now)
	if w.Cause != want.Cause || w.Vlan != want.Vlan || w.Target != want.Target || !sameOuts(w.Outs, want.Outs) {
		h.t.Fatalf("Take(%d, %+v, %d): %+v, must be %+v", port, f, now, w, want)
	}
	return want
}

// takes holds that it comes to just this, and goes out at just these.
func (h *held) takes(port int, f api.Frame, now int, cause, vlan, target int, ports ...int) {
	h.t.Helper()
	w := h.take(port, f, now)
	if w.Cause != cause || w.Vlan != vlan || w.Target != target || !slices.Equal(portsOf(w.Outs), ports) {
		h.t.Fatalf("Take(%d, %+v, %d) came to %+v, must be of cause %d, VLAN %d, target %d, at %v", port, f, now, w, cause, vlan, target, ports)
	}
}

// relay relays a frame; relays holds that it goes out at just these, too.
func (h *held) relay(vlan, from, target int, f api.Frame) []api.Out {
	h.t.Helper()
	l, want := h.b.Relay(vlan, from, target, f), h.m.relay(vlan, from, target, f)
	if !sameOuts(l, want) {
		h.t.Fatalf("Relay(%d, %d, %d, %+v): %+v, must be %+v", vlan, from, target, f, l, want)
	}
	return want
}

func (h *held) relays(vlan, from, target int, f api.Frame, ports ...int) {
	h.t.Helper()
	if l := h.relay(vlan, from, target, f); !slices.Equal(portsOf(l), ports) {
		h.t.Fatalf("Relay(%d, %d, %d, %+v) goes out at %v, must be at %v", vlan, from, target, f, portsOf(l), ports)
	}
}

// holds asks all that a bridge and its tables tell without a frame.
func (h *held) holds() {
	h.t.Helper()
	for port := -1; port <= h.m.ports+1; port++ {
		if s := h.b.State(port); s != h.m.states[port] {
			h.t.Fatalf("State(%d): %d, must be %d", port, s, h.m.states[port])
		}
	}
	if n := h.b.Counts(); n != h.m.counts {
		h.t.Fatalf("Counts: %v, must be %v", n, h.m.counts)
	}
	if n := h.b.Learned(); n != h.m.learned {
		h.t.Fatalf("Learned: %v, must be %v", n, h.m.learned)
	}
	if l, want := h.b.Stations().All(), h.m.all(); !slices.Equal(l, want) {
		h.t.Fatalf("Stations: %v, must be %v", l, want)
	}
}

// counted holds just these counts, 0 of all other causes.
func (h *held) counted(want map[int]int) {
	h.t.Helper()
	h.holds()
	for cause, n := range h.b.Counts() {
		if n != want[cause] {
			h.t.Fatalf("Counts of %d: %d, must be %d", cause, n, want[cause])
		}
	}
}

// hasLearned holds just these counts of learning.
func (h *held) hasLearned(fresh, moved, full int) {
	h.t.Helper()
	h.holds()
	if n := h.b.Learned(); n != [3]int{fresh, moved, full} {
		h.t.Fatalf("Learned: %v, must be %d, %d, %d", n, fresh, moved, full)
	}
}

func portsOf(l []api.Out) []int {
	var ports []int
	for _, o := range l {
		ports = append(ports, o.Port)
	}
	return ports
}

// same tells whether two frames are the same; a nil Body and an empty one are.
func same(a, b api.Frame) bool {
	if len(a.Body) == 0 && len(b.Body) == 0 {
		a.Body, b.Body = nil, nil
	}
	return reflect.DeepEqual(a, b)
}

func sameOuts(l, m []api.Out) bool {
	return slices.EqualFunc(l, m, func(a, b api.Out) bool { return a.Port == b.Port && same(a.Frame, b.Frame) })
}

// addr is a station's address, of a number.
func addr(n int) api.Mac { return api.Mac{2, 0, 0, byte(n >> 16), byte(n >> 8), byte(n)} }

// many are addresses of many that no bridge keeps.
func many() []api.Mac {
	return []api.Mac{
		{255, 255, 255, 255, 255, 255}, {1}, {3, 0, 0, 0, 0, 9}, {1, 0, 0x5e, 1, 2, 3},
		{1, 0x80, 0xc2, 0, 0, 16}, {1, 0x80, 0xc2, 0, 1, 0}, {1, 0x80, 0xc1, 255, 255, 255}, {3, 0x80, 0xc2, 0, 0, 0},
	}
}

// reserved are all addresses that bridges keep.
func reserved() []api.Mac {
	var l []api.Mac
	for n := range 16 {
		l = append(l, api.Mac{1, 0x80, 0xc2, 0, 0, byte(n)})
	}
	return l
}

// frame is one without a tag, of the stations of two numbers.
func frame(dst, src int) api.Frame {
	return api.Frame{Dst: addr(dst), Src: addr(src), Type: 0x800, Body: []byte{7, 8, 9}}
}

// to is one of the station 1 to any address.
func to(dst api.Mac) api.Frame {
	f := frame(0, 1)
	f.Dst = dst
	return f
}

// tag is the same frame with a tag.
func tag(f api.Frame, vlan, prio int) api.Frame {
	f.Tagged, f.Vlan, f.Prio = true, vlan, prio
	return f
}

// wrong are frames that may not be.
func wrong() []api.Frame {
	with := func(change func(*api.Frame)) api.Frame {
		f := tag(frame(2, 1), 10, 3)
		change(&f)
		return f
	}
	return []api.Frame{
		{},
		with(func(f *api.Frame) { f.Type = 0x5ff }),
		with(func(f *api.Frame) { f.Type = 0x8100 }),
		with(func(f *api.Frame) { f.Type = 0x10000 }),
		with(func(f *api.Frame) { f.Type = -1 }),
		with(func(f *api.Frame) { f.Body = make([]byte, 1501) }),
		with(func(f *api.Frame) { f.Vlan = 4095 }),
		with(func(f *api.Frame) { f.Vlan = -1 }),
		with(func(f *api.Frame) { f.Vlan = 4096 + 10 }),
		with(func(f *api.Frame) { f.Prio = 8 }),
		with(func(f *api.Frame) { f.Prio = -1 }),
		with(func(f *api.Frame) { f.Tagged = false }),
		with(func(f *api.Frame) { f.Tagged, f.Vlan = false, 0 }),
		with(func(f *api.Frame) { f.Tagged, f.Prio = false, 0 }),
	}
}

// far are numbers that are no port, no state and no VLAN.
func far() []int {
	return []int{math.MinInt, math.MinInt32, -65536 + 1, -256 + 1, -64, -1, 4095, 4096 + 1, 65536 + 1, math.MaxInt32, 1<<32 + 1, math.MaxInt - 1, math.MaxInt}
}

// noMoment are numbers that are no moment.
func noMoment() []int {
	return []int{math.MinInt, -maxTime, math.MinInt32, -1, maxTime + 1, maxTime + 2, 1 << 41, math.MaxInt}
}
