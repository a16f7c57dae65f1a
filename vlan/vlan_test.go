package vlan

import (
	"math"
	"math/rand/v2"
	"reflect"
	"slices"
	"testing"

	"gemel/api"
	"gemel/ether"
)

// The errors, as numbers.
const (
	ok      = 0
	errArg  = 1
	errNone = 4
)

// What a model's port is to a VLAN.
const (
	stranger = iota
	plain
	tagged
)

// model is the document's words told in another way than the program's: rows of ports, one for each VLAN.
type model struct {
	ports  int
	is     [4095][64]int
	native [64]int
}

func (m *model) vlan(v int) bool { return v > 0 && v < 4095 }
func (m *model) port(p int) bool { return p >= 0 && p < m.ports }

func (m *model) add(v, p int, tag bool) api.Errno {
	if !m.vlan(v) || !m.port(p) {
		return errArg
	}
	m.is[v][p] = plain
	if tag {
		m.is[v][p] = tagged
	}
	return ok
}

func (m *model) remove(v, p int) api.Errno {
	switch {
	case !m.vlan(v) || !m.port(p):
		return errArg
	case m.is[v][p] == stranger:
		return errNone
	}
	m.is[v][p] = stranger
	return ok
}

func (m *model) setNative(p, v int) api.Errno {
	if !m.port(p) || v < 0 || v > 4094 {
		return errArg
	}
	m.native[p] = v
	return ok
}

func (m *model) members(v int) []int {
	var l []int
	if !m.vlan(v) {
		return l
	}
	for p, is := range m.is[v] {
		if is != stranger {
			l = append(l, p)
		}
	}
	return l
}

func (m *model) vlans() []int {
	var l []int
	for v := 1; v <= 4094; v++ {
		if len(m.members(v)) > 0 {
			l = append(l, v)
		}
	}
	return l
}

func (m *model) in(p int, f api.Frame) (int, api.Errno) {
	if !m.port(p) || !ether.Right(f) {
		return 0, errArg
	}
	v := m.native[p]
	if f.Tagged && f.Vlan != 0 {
		v = f.Vlan
	}
	if v == 0 || m.is[v][p] == stranger {
		return 0, errNone
	}
	return v, ok
}

func (m *model) out(v, p int, f api.Frame) (api.Frame, api.Errno) {
	if !m.vlan(v) || !m.port(p) || !ether.Right(f) {
		return api.Frame{}, errArg
	}
	g := api.Frame{Dst: f.Dst, Src: f.Src, Type: f.Type, Body: f.Body}
	switch m.is[v][p] {
	case stranger:
		return api.Frame{}, errNone
	case tagged:
		g.Tagged, g.Vlan = true, v
		if f.Tagged {
			g.Prio = f.Prio
		}
	}
	return g, ok
}

// made is a table of so many ports.
func made(t *testing.T, ports int) *Table {
	t.Helper()
	x, e := New(ports)
	if e != ok || x == nil {
		t.Fatalf("New(%d): %v, %d", ports, x, e)
	}
	return x
}

// is holds an error against the one that must be.
func is(t *testing.T, what string, e, want api.Errno) {
	t.Helper()
	if e != want {
		t.Errorf("%s: %d, must be %d", what, e, want)
	}
}

// list holds a list against the one that must be; nil and empty are the same.
func list(t *testing.T, what string, l []int, want ...int) {
	t.Helper()
	if !slices.Equal(l, want) {
		t.Errorf("%s: %v, must be %v", what, l, want)
	}
}

// comesIn holds what In answers against what it must.
func comesIn(t *testing.T, x *Table, port int, f api.Frame, vlan int, want api.Errno) {
	t.Helper()
	if v, e := x.In(port, f); v != vlan || e != want {
		t.Errorf("In(%d, %+v): %d, %d, must be %d, %d", port, f, v, e, vlan, want)
	}
}

// goesOut holds what Out answers against what it must.
func goesOut(t *testing.T, x *Table, vlan, port int, f, want api.Frame, e api.Errno) {
	t.Helper()
	if g, got := x.Out(vlan, port, f); got != e || !same(g, want) {
		t.Errorf("Out(%d, %d, %+v): %+v, %d, must be %+v, %d", vlan, port, f, g, got, want, e)
	}
}

// same tells whether two frames are the same; nil and empty are.
func same(a, b api.Frame) bool {
	if len(a.Body) == 0 && len(b.Body) == 0 {
		a.Body, b.Body = nil, nil
	}
	return reflect.DeepEqual(a, b)
}

// holds asks a table all that a model tells.
func holds(t *testing.T, x *Table, m *model) {
	t.Helper()
	all := m.vlans()
	list(t, "Vlans", x.Vlans(), all...)
	for _, v := range append(all, near()...) {
		list(t, "Members", x.Members(v), m.members(v)...)
		for p := -1; p <= m.ports; p++ {
			f := untagged()
			g, e := m.out(v, p, f)
			goesOut(t, x, v, p, f, g, e)
		}
	}
	for p := range m.ports {
		v, e := m.in(p, untagged())
		comesIn(t, x, p, untagged(), v, e)
	}
}

// near are VLANs at the edges, and about them.
func near() []int { return []int{-1, 0, 1, 2, 4093, 4094, 4095} }

// far are numbers that are neither a port nor a VLAN.
func far() []int {
	return []int{math.MinInt, math.MinInt32, -4094, -1, 4095, 4096, 8192, 65536 + 1, math.MaxInt32, 1<<32 + 1, math.MaxInt}
}

func untagged() api.Frame {
	return api.Frame{Dst: api.Mac{1, 2, 3, 4, 5, 6}, Src: api.Mac{2, 3, 4, 5, 6, 7}, Type: 0x800, Body: []byte{7, 8, 9}}
}

func tag(vlan, prio int) api.Frame {
	f := untagged()
	f.Tagged, f.Vlan, f.Prio = true, vlan, prio
	return f
}

// wrong are frames that may not be.
func wrong() []api.Frame {
	with := func(change func(*api.Frame)) api.Frame {
		f := tag(10, 3)
		change(&f)
		return f
	}
	return []api.Frame{
		{},
		with(func(f *api.Frame) { f.Type = 0x5ff }),
		with(func(f *api.Frame) { f.Type = 0x8100 }),
		with(func(f *api.Frame) { f.Type = 0x10000 }),
		with(func(f *api.Frame) { f.Type = -1 }),
		with(func(f *api.Frame) { f.Body = make([]byte, 1501) }),
		with(func(f *api.Frame) { f.Vlan = 4095 }),
		with(func(f *api.Frame) { f.Vlan = -1 }),
		with(func(f *api.Frame) { f.Vlan = 4096 + 10 }),
		with(func(f *api.Frame) { f.Prio = 8 }),
		with(func(f *api.Frame) { f.Prio = -1 }),
		with(func(f *api.Frame) { f.Tagged = false }),
		with(func(f *api.Frame) { f.Tagged, f.Vlan = false, 0 }),
		with(func(f *api.Frame) { f.Tagged, f.Prio = false, 0 }),
	}
}

// P7.1: how many ports may be.
func TestNew(t *testing.T) {
	for ports := 1; ports <= 64; ports++ {
		x := made(t, ports)
		holds(t, x, &model{ports: ports})
		for p := range ports {
			is(t, "Add at a port", x.Add(1, p, false), ok)
			comesIn(t, x, p, untagged(), 0, errNone)
			comesIn(t, x, p, tag(0, 0), 0, errNone)
		}
		is(t, "Add below the ports", x.Add(1, -1, false), errArg)
		is(t, "Add above the ports", x.Add(1, ports, false), errArg)
	}
}

// P7.1, R1: how many may not.
func TestNewRefuses(t *testing.T) {
	for _, ports := range append(far(), 0, 65, 66, 128, -64, 256+1) {
		if x, e := New(ports); x != nil || e != errArg {
			t.Errorf("New(%d): %v, %d, must be nothing, %d", ports, x, e, errArg)
		}
	}
}

// P7.1, P7.2: a member stands where it was put, tagged or not, and nowhere else.
func TestAdd(t *testing.T) {
	for _, ports := range []int{1, 2, 64} {
		for _, vlan := range []int{1, 2, 4093, 4094} {
			for _, port := range []int{0, ports - 1} {
				for _, tagged := range []bool{false, true} {
					x, m := made(t, ports), &model{ports: ports}
					is(t, "Add", x.Add(vlan, port, tagged), ok)
					m.add(vlan, port, tagged)
					holds(t, x, m)
					list(t, "Members", x.Members(vlan), port)
					list(t, "Vlans", x.Vlans(), vlan)
				}
			}
		}
	}
}

// P7.1: a member that is added anew is one member still, tagged as it was said last.
func TestAddAnew(t *testing.T) {
	for _, first := range []bool{false, true} {
		for _, then := range []bool{false, true} {
			x := made(t, 3)
			x.Add(9, 1, first)
			is(t, "Add anew", x.Add(9, 1, then), ok)
			list(t, "Members", x.Members(9), 1)
			list(t, "Vlans", x.Vlans(), 9)
			want := untagged()
			if then {
				want = tag(9, 0)
			}
			goesOut(t, x, 9, 1, untagged(), want, ok)
			is(t, "Remove", x.Remove(9, 1), ok)
			is(t, "Remove once more", x.Remove(9, 1), errNone)
		}
	}
}

// P7.1: one port may be tagged in one VLAN and not in another, and two ports of a VLAN may differ.
func TestTaggedByPlace(t *testing.T) {
	x := made(t, 2)
	x.Add(9, 0, true)
	x.Add(8, 0, false)
	x.Add(9, 1, false)
	x.Add(8, 1, true)
	goesOut(t, x, 9, 0, untagged(), tag(9, 0), ok)
	goesOut(t, x, 8, 0, untagged(), untagged(), ok)
	goesOut(t, x, 9, 1, untagged(), untagged(), ok)
	goesOut(t, x, 8, 1, untagged(), tag(8, 0), ok)
}

// P7.1: what is removed is no member, and all others stay.
func TestRemove(t *testing.T) {
	for _, port := range []int{0, 1, 3} {
		for _, vlan := range []int{1, 9, 4094} {
			x, m := made(t, 4), &model{ports: 4}
			for p := range 4 {
				for _, v := range []int{1, 9, 4094} {
					x.Add(v, p, p%2 == 0)
					m.add(v, p, p%2 == 0)
				}
			}
			is(t, "Remove", x.Remove(vlan, port), ok)
			m.remove(vlan, port)
			holds(t, x, m)
			is(t, "Remove once more", x.Remove(vlan, port), errNone)
			holds(t, x, m)
			is(t, "Add again", x.Add(vlan, port, true), ok)
			m.add(vlan, port, true)
			holds(t, x, m)
		}
	}
}

// P7.1: neither a member of another VLAN, nor another port of this one, nor a native VLAN makes a member.
func TestRemoveOfNone(t *testing.T) {
	x := made(t, 2)
	is(t, "Remove from nothing", x.Remove(1, 0), errNone)
	is(t, "Remove from nothing", x.Remove(4094, 1), errNone)
	x.Add(9, 0, true)
	x.Native(1, 9)
	is(t, "Remove of another port", x.Remove(9, 1), errNone)
	is(t, "Remove of another VLAN", x.Remove(8, 0), errNone)
	list(t, "Members", x.Members(9), 0)
}

// P7.1: a native VLAN is the one that was said last, and 0 takes it away.
func TestNative(t *testing.T) {
	for _, port := range []int{0, 1, 63} {
		x := made(t, 64)
		for _, vlan := range []int{1, 2, 4093, 4094} {
			x.Add(vlan, port, false)
			is(t, "Native", x.Native(port, vlan), ok)
			comesIn(t, x, port, untagged(), vlan, ok)
			comesIn(t, x, port, tag(0, 5), vlan, ok)
		}
		is(t, "Native of 0", x.Native(port, 0), ok)
		comesIn(t, x, port, untagged(), 0, errNone)
		comesIn(t, x, port, tag(0, 5), 0, errNone)
		comesIn(t, x, port, tag(4094, 5), 4094, ok)
		is(t, "Native of 0, where there is none", x.Native(port, 0), ok)
		comesIn(t, x, port, untagged(), 0, errNone)
		is(t, "Native again", x.Native(port, 2), ok)
		comesIn(t, x, port, untagged(), 2, ok)
	}
}

// P7.1: a native VLAN is one port's alone, and needs no member; Add and Remove let it be as it is.
func TestNativeStands(t *testing.T) {
	x := made(t, 3)
	is(t, "Native of no member", x.Native(1, 9), ok)
	list(t, "Vlans", x.Vlans())
	list(t, "Members", x.Members(9))
	comesIn(t, x, 1, untagged(), 0, errNone)
	for p := range 3 {
		x.Add(9, p, false)
	}
	comesIn(t, x, 0, untagged(), 0, errNone)
	comesIn(t, x, 1, untagged(), 9, ok)
	comesIn(t, x, 2, untagged(), 0, errNone)
	x.Remove(9, 1)
	comesIn(t, x, 1, untagged(), 0, errNone)
	x.Add(9, 1, true)
	comesIn(t, x, 1, untagged(), 9, ok)
}

// P7.1, P7.3, R1: what there is no VLAN or port of is refused, and changes nothing.
func TestRefuses(t *testing.T) {
	for _, ports := range []int{1, 5, 64} {
		x, m := made(t, ports), &model{ports: ports}
		for _, v := range []int{1, 9, 4094} {
			for _, p := range []int{0, ports - 1} {
				x.Add(v, p, v == 9)
				m.add(v, p, v == 9)
				x.Native(p, v)
				m.setNative(p, v)
			}
		}
		for _, p := range append(far(), ports, ports+1) {
			refused(t, x, 1, p)
			is(t, "Native of 0 at no port", x.Native(p, 0), errArg)
			comesIn(t, x, p, untagged(), 0, errArg)
			comesIn(t, x, p, tag(9, 1), 0, errArg)
		}
		for _, v := range far() {
			refused(t, x, v, 0)
			refused(t, x, v, -1)
		}
		for _, tagged := range []bool{false, true} {
			is(t, "Add to 0", x.Add(0, 0, tagged), errArg)
		}
		is(t, "Remove from 0", x.Remove(0, 0), errArg)
		goesOut(t, x, 0, 0, untagged(), api.Frame{}, errArg)
		holds(t, x, m)
	}
}

// refused holds that no call takes a VLAN and a port of which one is none.
func refused(t *testing.T, x *Table, vlan, port int) {
	t.Helper()
	is(t, "Add", x.Add(vlan, port, false), errArg)
	is(t, "Add", x.Add(vlan, port, true), errArg)
	is(t, "Remove", x.Remove(vlan, port), errArg)
	is(t, "Native", x.Native(port, vlan), errArg)
	goesOut(t, x, vlan, port, untagged(), api.Frame{}, errArg)
	goesOut(t, x, vlan, port, tag(9, 1), api.Frame{}, errArg)
}

// P7.2: members in whatever order they were added, rising, each once.
func TestMembers(t *testing.T) {
	r := rand.New(rand.NewPCG(7, 2))
	for range 50 {
		x := made(t, 64)
		ports := r.Perm(64)[:1+r.IntN(64)]
		for range 2 {
			for _, p := range ports {
				x.Add(4094, p, r.IntN(2) == 0)
				x.Add(1, 63-p, true)
			}
			r.Shuffle(len(ports), func(i, j int) { ports[i], ports[j] = ports[j], ports[i] })
		}
		slices.Sort(ports)
		list(t, "Members", x.Members(4094), ports...)
		for i := range ports {
			ports[i] = 63 - ports[i]
		}
		slices.Sort(ports)
		list(t, "Members of the other one", x.Members(1), ports...)
	}
}

// P7.2, P1: a VLAN without members, and none that there is, have none.
func TestMembersOfNone(t *testing.T) {
	x := made(t, 64)
	for _, v := range append(far(), near()...) {
		list(t, "Members of an empty table", x.Members(v))
	}
	for p := range 64 {
		x.Add(10, p, true)
		x.Native(p, 4094)
	}
	for _, v := range append(far(), near()...) {
		list(t, "Members of another VLAN", x.Members(v))
	}
	for p := range 64 {
		x.Remove(10, p)
	}
	list(t, "Members, when all were removed", x.Members(10))
}

// P7.2: VLANs in whatever order members were added, rising, each once.
func TestVlans(t *testing.T) {
	r := rand.New(rand.NewPCG(7, 3))
	for range 50 {
		x := made(t, 5)
		vlans := r.Perm(4094)[:1+r.IntN(300)]
		for i := range vlans {
			vlans[i]++
			for _, p := range r.Perm(5)[:1+r.IntN(5)] {
				x.Add(vlans[i], p, r.IntN(2) == 0)
			}
		}
		slices.Sort(vlans)
		list(t, "Vlans", x.Vlans(), vlans...)
	}
}

// P7.2: a VLAN is told till its last member is removed.
func TestVlansOfNone(t *testing.T) {
	x := made(t, 3)
	list(t, "Vlans of an empty table", x.Vlans())
	x.Native(0, 7)
	list(t, "Vlans of a native one alone", x.Vlans())
	x.Add(20, 0, true)
	x.Add(10, 2, true)
	x.Add(10, 1, false)
	list(t, "Vlans", x.Vlans(), 10, 20)
	x.Remove(10, 2)
	list(t, "Vlans, one of two removed", x.Vlans(), 10, 20)
	x.Remove(10, 1)
	list(t, "Vlans, both removed", x.Vlans(), 20)
	x.Remove(20, 0)
	list(t, "Vlans, all removed", x.Vlans())
}

// P7.2: who has heard enough VLANs is told no more.
func TestEachVlanStops(t *testing.T) {
	x := made(t, 3)
	for p := range 3 {
		x.Add(10+p, p, true)
	}
	heard := 0
	for range x.eachVlan() {
		if heard++; heard == 2 {
			break
		}
	}
	if heard != 2 {
		t.Errorf("%d VLANs, must be 2", heard)
	}
}

// P7.2: all VLANs at all ports.
func TestFull(t *testing.T) {
	x, m := made(t, 64), &model{ports: 64}
	for v := 4094; v >= 1; v-- {
		for p := 63; p >= 0; p-- {
			x.Add(v, p, (v+p)%3 == 0)
			m.add(v, p, (v+p)%3 == 0)
		}
	}
	if l := x.Vlans(); len(l) != 4094 || !slices.Equal(l, m.vlans()) {
		t.Errorf("Vlans: %d of them, must be 4094", len(l))
	}
	for v := range 4096 {
		list(t, "Members", x.Members(v), m.members(v)...)
	}
}

// P7.3: each kind of frame, at a port with a native VLAN and without one, that is a member and that is none.
func TestIn(t *testing.T) {
	x := made(t, 5)
	for p := range 4 {
		x.Add(20, p, p%2 == 0)
	}
	x.Native(0, 10) // and a member of it
	x.Add(10, 0, true)
	x.Native(1, 10) // and none of it
	x.Add(10, 2, false)
	for prio := range 8 {
		for p, want := range []int{10, 0, 0, 0, 0} {
			e := api.Errno(errNone)
			if want != 0 {
				e = ok
			}
			comesIn(t, x, p, untagged(), want, e)
			comesIn(t, x, p, tag(0, prio), want, e)
		}
		comesIn(t, x, 0, tag(10, prio), 10, ok)
		comesIn(t, x, 1, tag(10, prio), 0, errNone)
		comesIn(t, x, 2, tag(10, prio), 10, ok)
		comesIn(t, x, 3, tag(10, prio), 0, errNone)
		for p := range 4 {
			comesIn(t, x, p, tag(20, prio), 20, ok)
			comesIn(t, x, p, tag(21, prio), 0, errNone)
		}
		comesIn(t, x, 4, tag(20, prio), 0, errNone)
	}
}

// P7.3: a tag of each VLAN there is.
func TestInOfEachVlan(t *testing.T) {
	x := made(t, 2)
	for v := 1; v <= 4094; v++ {
		comesIn(t, x, 1, tag(v, 7), 0, errNone)
		x.Add(v, 1, v%2 == 0)
		comesIn(t, x, 1, tag(v, 7), v, ok)
		comesIn(t, x, 0, tag(v, 7), 0, errNone)
		x.Native(1, v)
		comesIn(t, x, 1, untagged(), v, ok)
		goesOut(t, x, v, 0, untagged(), api.Frame{}, errNone)
		if v%2 == 0 {
			goesOut(t, x, v, 1, untagged(), tag(v, 0), ok)
		} else {
			goesOut(t, x, v, 1, tag(v, 0), untagged(), ok)
		}
	}
}

// P7.3: how a frame goes out, with its Prio, whatever VLAN its tag tells.
func TestOut(t *testing.T) {
	x := made(t, 3)
	x.Add(10, 0, true)
	x.Add(10, 1, false)
	x.Add(20, 2, true)
	x.Native(0, 10) // which does not take the tag away
	goesOut(t, x, 10, 0, untagged(), tag(10, 0), ok)
	goesOut(t, x, 10, 1, untagged(), untagged(), ok)
	goesOut(t, x, 10, 2, untagged(), api.Frame{}, errNone)
	for prio := range 8 {
		for _, v := range []int{0, 1, 10, 20, 4094} {
			goesOut(t, x, 10, 0, tag(v, prio), tag(10, prio), ok)
			goesOut(t, x, 10, 1, tag(v, prio), untagged(), ok)
			goesOut(t, x, 10, 2, tag(v, prio), api.Frame{}, errNone)
			goesOut(t, x, 20, 2, tag(v, prio), tag(20, prio), ok)
		}
	}
}

// P7.3: bodies of all lengths that may be, at their edges.
func TestBodies(t *testing.T) {
	x := made(t, 2)
	x.Add(10, 0, true)
	x.Add(10, 1, false)
	x.Native(1, 10)
	for _, n := range []int{0, 1, 1499, 1500} {
		f, g := untagged(), tag(10, 0)
		f.Body = make([]byte, n)
		for i := range f.Body {
			f.Body[i] = byte(i*7 + 1)
		}
		g.Body = slices.Clone(f.Body)
		comesIn(t, x, 1, f, 10, ok)
		comesIn(t, x, 0, g, 10, ok)
		goesOut(t, x, 10, 0, f, g, ok)
		goesOut(t, x, 10, 1, g, f, ok)
	}
	f := untagged()
	for _, body := range [][]byte{nil, {}} {
		f.Body = body
		g, e := x.Out(10, 0, f)
		if e != ok || len(g.Body) != 0 {
			t.Errorf("Out without a Body: %+v, %d", g, e)
		}
	}
}

// P7.3, R1: a frame that may not be is refused, also where the port is no member.
func TestWrongFrames(t *testing.T) {
	x := made(t, 3)
	for _, v := range []int{10, 20} {
		x.Add(v, 0, true)
		x.Add(v, 1, false)
	}
	for p := range 3 {
		x.Native(p, 10)
	}
	for _, f := range wrong() {
		for p := -1; p <= 3; p++ {
			comesIn(t, x, p, f, 0, errArg)
			for _, v := range []int{-1, 0, 10, 11, 20, 4095} {
				goesOut(t, x, v, p, f, api.Frame{}, errArg)
			}
		}
	}
	list(t, "Vlans", x.Vlans(), 10, 20)
	list(t, "Members", x.Members(10), 0, 1)
}

// P7.4: what comes in at one member, and goes out at another one, comes in there as of the same VLAN, where it is tagged, or its native VLAN is that one; a port that is no member hears nothing.
func TestTheorem(t *testing.T) {
	r := rand.New(rand.NewPCG(7, 4))
	heard, deaf := 0, 0
	for range 300 {
		x, m := shuffled(r, 1+r.IntN(6))
		for range 200 {
			from, to, f := r.IntN(m.ports), r.IntN(m.ports), anyFrame(r)
			v, e := x.In(from, f)
			if e != ok {
				continue
			}
			g, e := x.Out(v, to, f)
			if m.is[v][to] == stranger {
				if e != errNone || !same(g, api.Frame{}) {
					t.Fatalf("port %d is no member of %d, and hears %+v, %d", to, v, g, e)
				}
				deaf++
				continue
			}
			if e != ok {
				t.Fatalf("port %d is a member of %d: Out is %d", to, v, e)
			}
			if m.is[v][to] == plain && m.native[to] != v {
				continue
			}
			heard++
			if w, e := x.In(to, g); w != v || e != ok {
				t.Fatalf("%+v came in as of %d, and at port %d as of %d, %d", f, v, to, w, e)
			}
		}
	}
	if heard < 1000 || deaf < 1000 {
		t.Errorf("too few were asked: %d heard, %d not", heard, deaf)
	}
}

// shuffled is a table, and its model, of few VLANs and whatever members.
func shuffled(r *rand.Rand, ports int) (*Table, *model) {
	x, _ := New(ports)
	m := &model{ports: ports}
	for range 4 * ports {
		v, p, tag := anyVlan(r), r.IntN(ports), r.IntN(2) == 0
		x.Add(v, p, tag)
		m.add(v, p, tag)
		v = anyVlan(r)
		x.Native(p, v)
		m.setNative(p, v)
	}
	return x, m
}

func anyVlan(r *rand.Rand) int { return []int{0, 1, 2, 3, 4093, 4094}[r.IntN(6)] }

func anyFrame(r *rand.Rand) api.Frame {
	f := untagged()
	f.Body = f.Body[:r.IntN(4)]
	if r.IntN(3) > 0 {
		f.Tagged, f.Vlan, f.Prio = true, anyVlan(r), r.IntN(8)
	}
	return f
}

// P7.1 to P7.3: whatever is called, the table answers as the model does.
func TestAnyCalls(t *testing.T) {
	r := rand.New(rand.NewPCG(7, 1))
	for range 60 {
		ports := 1 + r.IntN(64)
		x, m := made(t, ports), &model{ports: ports}
		for range 400 {
			calls(t, x, m, [4]byte{byte(r.Uint32()), byte(r.Uint32()), byte(r.Uint32()), byte(r.Uint32())})
		}
		holds(t, x, m)
	}
}

// calls is one call, told by four bytes, at a table and at its model.
func calls(t *testing.T, x *Table, m *model, b [4]byte) {
	t.Helper()
	port := int(b[1])%(m.ports+2) - 1
	vlan := []int{-1, 0, 1, 2, 3, 4, 5, 4093, 4094, 4095}[b[2]%10]
	f := untagged()
	if b[3]&1 != 0 {
		f.Tagged, f.Prio = true, int(b[3]>>1)%9
		f.Vlan = []int{0, 1, 2, 3, 4, 5, 4093, 4094, 4095}[b[3]>>4%9]
	}
	switch b[0] % 8 {
	case 0, 1:
		is(t, "Add", x.Add(vlan, port, b[3]&1 != 0), m.add(vlan, port, b[3]&1 != 0))
	case 2:
		is(t, "Remove", x.Remove(vlan, port), m.remove(vlan, port))
	case 3:
		is(t, "Native", x.Native(port, vlan), m.setNative(port, vlan))
	case 4:
		list(t, "Members", x.Members(vlan), m.members(vlan)...)
	case 5:
		list(t, "Vlans", x.Vlans(), m.vlans()...)
	case 6:
		v, e := m.in(port, f)
		comesIn(t, x, port, f, v, e)
	default:
		g, e := m.out(vlan, port, f)
		goesOut(t, x, vlan, port, f, g, e)
	}
}

// R3: lists that are told are the caller's own.
func TestListsAreOwn(t *testing.T) {
	x := made(t, 5)
	for _, v := range []int{10, 20, 30} {
		for p := range 4 {
			x.Add(v, p, true)
		}
	}
	for range 2 {
		members, vlans := x.Members(10), x.Vlans()
		list(t, "Members", members, 0, 1, 2, 3)
		list(t, "Vlans", vlans, 10, 20, 30)
		other, again := x.Members(20), x.Vlans()
		for i := range members {
			members[i] = 4
		}
		for i := range vlans {
			vlans[i] = 40
		}
		_, _ = append(members, 9), append(vlans, 9)
		list(t, "Members told beside", other, 0, 1, 2, 3)
		list(t, "Vlans told beside", again, 10, 20, 30)
	}
	told, vlans := x.Members(10), x.Vlans()
	x.Remove(10, 0)
	x.Add(5, 4, false)
	x.Add(10, 4, false)
	list(t, "Members told ahead of a change", told, 0, 1, 2, 3)
	list(t, "Vlans told ahead of a change", vlans, 10, 20, 30)
}

// R3: a Body that goes out is the caller's own, and the one that was handed in stays as it is.
func TestBodyIsOwn(t *testing.T) {
	x := made(t, 2)
	x.Add(10, 0, true)
	x.Add(10, 1, false)
	x.Native(1, 10)
	for _, f := range []api.Frame{untagged(), tag(10, 4), tag(0, 4)} {
		for p := range 2 {
			whole := []byte{7, 8, 9, 1, 2}
			f.Body = whole[:3]
			ahead := f
			if _, e := x.In(1, f); e != ok {
				t.Fatal(e)
			}
			g, e := x.Out(10, p, f)
			if e != ok {
				t.Fatal(e)
			}
			other, _ := x.Out(10, p, f)
			g.Body[0] = 99
			_ = append(g.Body, 77)
			if !slices.Equal(whole, []byte{7, 8, 9, 1, 2}) || !same(f, ahead) {
				t.Errorf("a change of what goes out changes what was handed in: %v", whole)
			}
			if !slices.Equal(other.Body, []byte{7, 8, 9}) {
				t.Errorf("a change of what goes out changes what else goes out: %v", other.Body)
			}
			whole[1] = 55
			if !slices.Equal(g.Body, []byte{99, 8, 9}) || !slices.Equal(other.Body, []byte{7, 8, 9}) {
				t.Errorf("a change of what was handed in changes what goes out: %v, %v", g.Body, other.Body)
			}
		}
	}
}

// R4: tables are apart from each other.
func TestTablesAreApart(t *testing.T) {
	x, y := made(t, 3), made(t, 3)
	x.Add(10, 1, true)
	x.Native(1, 10)
	holds(t, y, &model{ports: 3})
	y.Add(10, 1, false)
	is(t, "Remove", y.Remove(10, 1), ok)
	list(t, "Members", x.Members(10), 1)
	comesIn(t, x, 1, untagged(), 10, ok)
	comesIn(t, y, 1, untagged(), 0, errNone)
	goesOut(t, x, 10, 1, untagged(), tag(10, 0), ok)
}

// The chapter's example.
func TestExample(t *testing.T) {
	x := made(t, 3)
	is(t, "Add", x.Add(10, 1, true), ok)
	is(t, "Native", x.Native(2, 10), ok)
	is(t, "Add", x.Add(10, 2, false), ok)
	comesIn(t, x, 2, untagged(), 10, ok)
	goesOut(t, x, 10, 1, untagged(), tag(10, 0), ok)
}

// FuzzTable: whatever is called, nothing panics, and the table answers as the model does.
func FuzzTable(f *testing.F) {
	f.Add(3, []byte{0, 2, 5, 1, 3, 2, 5, 0, 6, 2, 5, 0})
	f.Add(64, []byte{0, 1, 8, 0, 2, 1, 8, 0, 5, 0, 0, 0})
	f.Fuzz(func(t *testing.T, ports int, b []byte) {
		x, e := New(ports)
		if ports < 1 || ports > 64 {
			if x != nil || e != errArg {
				t.Fatalf("New(%d): %v, %d", ports, x, e)
			}
			return
		}
		m := &model{ports: ports}
		for ; len(b) >= 4 && e == ok; b = b[4:] {
			calls(t, x, m, [4]byte(b))
		}
		holds(t, x, m)
	})
}
