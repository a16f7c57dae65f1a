package rx

import (
	"math"
	"testing"

	"gemel/api"
)

// The errors, as numbers.
const (
	ok       = 0
	errArg   = 1
	errForm  = 2
	errThere = 5
	errDown  = 7
)

// The states, as numbers.
const (
	down = iota
	expired
	defaulted
	current
)

const maxTime = 1 << 40

// The bits of State, by their places.
const (
	active = iota
	short
	many
	sync
	collect
	send
	isDefault
	isExpired
)

// has tells whether a State has the bit at that place.
func has(state, place int) bool { return state>>place%2 != 0 }

// bits is a State of just the bits at these places.
func bits(places ...int) int {
	state := 0
	for _, p := range places {
		state |= 1 << p
	}
	return state
}

// numbers are those of an info, but State.
func numbers(i *api.Info) []*int {
	return []*int{&i.SysPrio, &i.Key, &i.PortPrio, &i.Port}
}

// mayBe tells whether an info may be in a LACPDU.
func mayBe(i api.Info) bool {
	for _, n := range numbers(&i) {
		if *n < 0 || *n > 65535 {
			return false
		}
	}
	return i.State >= 0 && i.State <= 255
}

// agree tells whether two infos are the same in SysPrio, Sys, Key, PortPrio, Port, and in the bits at these places.
func agree(a, b api.Info, places ...int) bool {
	theirs := numbers(&b)
	for i, n := range numbers(&a) {
		if *n != *theirs[i] {
			return false
		}
	}
	for _, p := range places {
		if has(a.State, p) != has(b.State, p) {
			return false
		}
	}
	return a.Sys == b.Sys
}

// model is the document's words told in another way than the program's: bits one by one, and the moments that are left to wait, not the one at which waiting began.
type model struct {
	made    api.Info
	set     [3]bool // BitSync, BitCollect, BitSend
	state   int
	last    int // the first moment at which it has waited for long enough
	partner [4]int
	sys     api.Mac
	heard   [8]bool // the bits of the Partner's State
}

// tells is the Actor.
func (m *model) tells() api.Info {
	i := m.made
	places := []int{}
	for p := range 3 {
		if has(m.made.State, p) {
			places = append(places, p)
		}
		if m.set[p] {
			places = append(places, sync+p)
		}
	}
	if m.state == defaulted {
		places = append(places, isDefault)
	}
	if m.state == expired {
		places = append(places, isExpired)
	}
	i.State = bits(places...)
	return i
}

// knows is the Partner.
func (m *model) knows() api.Info {
	i := api.Info{Sys: m.sys}
	for k, n := range numbers(&i) {
		*n = m.partner[k]
	}
	for p, is := range m.heard {
		if is {
			i.State += 1 << p
		}
	}
	return i
}

func (m *model) learn(i api.Info) {
	m.sys = i.Sys
	for k, n := range numbers(&i) {
		m.partner[k] = *n
	}
	for p := range m.heard {
		m.heard[p] = has(i.State, p)
	}
}

func isMoment(now int) bool { return 0 <= now && now <= maxTime }

// become is what the end does where it comes to a state, and waits from now on.
func (m *model) become(state, now int) {
	m.state = state
	m.last = now + 90
	if state == expired || has(m.made.State, short) {
		m.last = now + 3
	}
	switch state {
	case down:
		m.heard[sync] = false
	case expired:
		m.heard[sync], m.heard[short] = false, true
	case defaulted:
		m.learn(api.Info{})
	}
}

func (m *model) enable(is bool, now int) int {
	if !isMoment(now) {
		return errArg
	}
	if !is {
		m.become(down, now)
	} else if m.state == down {
		m.become(expired, now)
	}
	return ok
}

func (m *model) tick(now int) int {
	if !isMoment(now) {
		return errArg
	}
	if m.state == current && now >= m.last {
		m.become(expired, now)
	} else if m.state == expired && now >= m.last {
		m.become(defaulted, now)
	}
	return ok
}

func (m *model) take(l api.Lacp, now int) (bool, int) {
	if !isMoment(now) {
		return false, errArg
	}
	if m.state == down {
		return false, errDown
	}
	if !mayBe(l.Actor) || !mayBe(l.Partner) || l.Delay < 0 || l.Delay > 65535 {
		return false, errForm
	}
	if l.Actor.Sys == m.made.Sys && l.Actor.Port == m.made.Port {
		return false, errThere
	}
	ahead := m.tells()
	anew := !agree(l.Partner, ahead, active, short, many, sync)
	known := agree(l.Partner, ahead, many) && (has(ahead.State, sync) || !has(l.Partner.State, sync))
	m.learn(l.Actor)
	if has(l.Actor.State, many) && !known {
		m.heard[sync] = false
	}
	m.become(current, now)
	return anew, ok
}

func (m *model) mux(b int) int {
	for p := range 64 {
		if has(b, p) && (p < sync || p > send) {
			return errArg
		}
	}
	for p := range m.set {
		m.set[p] = has(b, sync+p)
	}
	return ok
}

// held is an end and its model, of which the same is asked.
type held struct {
	t testing.TB
	x *End
	m *model
}

// made is a new end of that info.
func made(t testing.TB, i api.Info) *held {
	t.Helper()
	x, e := New(i)
	if e != ok || x == nil {
		t.Fatalf("New(%+v): %v, %d", i, x, e)
	}
	h := &held{t, x, &model{made: i}}
	h.holds()
	return h
}

// holds asks all that an end tells.
func (h *held) holds() {
	h.t.Helper()
	if a := h.x.Actor(); a != h.m.tells() {
		h.t.Fatalf("Actor: %+v, must be %+v", a, h.m.tells())
	}
	if p := h.x.Partner(); p != h.m.knows() {
		h.t.Fatalf("Partner: %+v, must be %+v", p, h.m.knows())
	}
	if s := h.x.State(); s != h.m.state {
		h.t.Fatalf("State: %d, must be %d", s, h.m.state)
	}
}

func (h *held) is(what string, e api.Errno, want int) {
	h.t.Helper()
	if int(e) != want {
		h.t.Fatalf("%s: %d, must be %d", what, e, want)
	}
	h.holds()
}

func (h *held) enable(is bool, now int) int {
	h.t.Helper()
	e, want := h.x.Enable(is, now), h.m.enable(is, now)
	h.is("Enable", e, want)
	return want
}

func (h *held) tick(now int) int {
	h.t.Helper()
	e, want := h.x.Tick(now), h.m.tick(now)
	h.is("Tick", e, want)
	return want
}

func (h *held) take(l api.Lacp, now int) (bool, int) {
	h.t.Helper()
	anew, e := h.x.Take(l, now)
	wantAnew, want := h.m.take(l, now)
	if anew != wantAnew {
		h.t.Fatalf("Take(%+v, %d) tells %t, %d, must be %t, %d", l, now, anew, e, wantAnew, want)
	}
	h.is("Take", e, want)
	return anew, want
}

func (h *held) mux(b int) int {
	h.t.Helper()
	e, want := h.x.Mux(b), h.m.mux(b)
	h.is("Mux", e, want)
	return want
}

// takes holds that Take comes to just this.
func (h *held) takes(l api.Lacp, now int, anew bool, want int) {
	h.t.Helper()
	if a, e := h.take(l, now); a != anew || e != want {
		h.t.Fatalf("Take(%+v, %d) came to %t, %d, must be %t, %d", l, now, a, e, anew, want)
	}
}

// ticks holds that the end is of that state behind a Tick.
func (h *held) ticks(now, state int) {
	h.t.Helper()
	h.tick(now)
	h.stands(state)
}

func (h *held) stands(state int) {
	h.t.Helper()
	if s := h.x.State(); s != state {
		h.t.Fatalf("State: %d, must be %d", s, state)
	}
}

// knows holds that the Partner is just that one.
func (h *held) knows(want api.Info) {
	h.t.Helper()
	if p := h.x.Partner(); p != want {
		h.t.Fatalf("Partner: %+v, must be %+v", p, want)
	}
}

// own is an info that an end may be made of, no two of whose numbers are the same.
func own(places ...int) api.Info {
	return api.Info{SysPrio: 11, Sys: api.Mac{2, 3, 4, 5, 6, 7}, Key: 12, PortPrio: 13, Port: 14, State: bits(places...)}
}

// other is what the other end tells of itself.
func other(places ...int) api.Info {
	return api.Info{SysPrio: 21, Sys: api.Mac{2, 3, 4, 5, 6, 8}, Key: 22, PortPrio: 23, Port: 24, State: bits(places...)}
}

// begun is the moment from which on an end of standing waits.
const begun = 1000

// standing is an end of that info that has come to a state, and waits from begun on; where it is Current it knows all that other(many, sync) tells.
func standing(t testing.TB, i api.Info, state int) *held {
	t.Helper()
	h := made(t, i)
	switch state {
	case expired:
		h.enable(true, begun)
	case defaulted:
		h.enable(true, begun-3)
		h.tick(begun)
	case current:
		h.enable(true, begun)
		h.take(api.Lacp{Actor: other(many, sync), Partner: h.x.Actor()}, begun)
		h.knows(other(many, sync))
	}
	h.stands(state)
	return h
}

// noMoments are numbers that are no moments, those beside the edges first.
func noMoments() []int {
	return []int{-1, maxTime + 1, -2, maxTime + 2, -maxTime, 1 << 41, 1<<41 + 5, math.MinInt32, math.MinInt, math.MinInt + 1000, math.MaxInt - 1, math.MaxInt}
}
