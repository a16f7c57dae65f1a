package rx

import (
	"go/parser"
	"go/token"
	"math"
	"math/rand/v2"
	"path/filepath"
	"slices"
	"strings"
	"testing"

	"gemel/api"
)

// The states and the bits are the numbers that the chapter and api have.
func TestNumbers(t *testing.T) {
	if got := [4]int{Down, Expired, Defaulted, Current}; got != [4]int{0, 1, 2, 3} {
		t.Errorf("states: %v", got)
	}
	if got := []int{api.BitActive, api.BitShort, api.BitMany, api.BitSync, api.BitCollect, api.BitSend, api.BitDefault, api.BitExpired}; !slices.Equal(got, []int{
		bits(active), bits(short), bits(many), bits(sync), bits(collect), bits(send), bits(isDefault), bits(isExpired),
	}) {
		t.Errorf("bits: %v", got)
	}
}

// isNew holds that a new end is Down, its Partner all zero, and that it tells what it was made of, and no more.
func isNew(t *testing.T, i api.Info) {
	t.Helper()
	h := made(t, i)
	h.stands(down)
	h.knows(api.Info{})
	if a := h.x.Actor(); a != i {
		t.Errorf("Actor of a new end: %+v, made of %+v", a, i)
	}
}

// refused holds New to ErrArg, and to R1 beside it.
func refused(t *testing.T, i api.Info) {
	t.Helper()
	if x, e := New(i); x != nil || e != errArg {
		t.Errorf("New(%+v): %v, %d, must be nothing, %d", i, x, e, errArg)
	}
}

// P13.1: each number as low and as great as it may be, one past either, and far ones.
func TestNewByNumbers(t *testing.T) {
	wrong := []int{-1, 65536, -65536, -65535, 65537, 1 << 17, 1 << 32, 1<<32 + 5, math.MinInt, math.MinInt + 3, math.MaxInt}
	for _, base := range []api.Info{{}, own(active, many), {SysPrio: 65535, Sys: api.Mac{255, 255, 255, 255, 255, 255}, Key: 65535, PortPrio: 65535, Port: 65535, State: 7}} {
		isNew(t, base)
		for k := range 4 {
			for _, n := range []int{0, 1, 255, 256, 32767, 32768, 65534, 65535} {
				i := base
				*numbers(&i)[k] = n
				isNew(t, i)
			}
			for _, n := range wrong {
				i := base
				*numbers(&i)[k] = n
				refused(t, i)
				i.State = bits(sync)
				refused(t, i)
			}
		}
		for k := range 6 {
			for _, v := range []byte{0, 1, 128, 255} {
				i := base
				i.Sys[k] = v
				isNew(t, i)
			}
		}
	}
}

// P13.1: no number makes good for another one that may not be.
func TestNewByTwoNumbers(t *testing.T) {
	for k := range 4 {
		for l := range k {
			for _, n := range [][2]int{{-1, 65536}, {65536, -1}, {-1, 1}, {1, -1}, {65536, 0}, {0, 65536}} {
				i := own()
				*numbers(&i)[k], *numbers(&i)[l] = n[0], n[1]
				refused(t, i)
			}
		}
	}
}

// P13.1: each bit of State alone, each two, and each State of a byte: BitActive, BitShort and BitMany may be, no others.
func TestNewByState(t *testing.T) {
	for p := range 64 {
		if p <= many {
			isNew(t, own(p))
		} else {
			refused(t, own(p))
			refused(t, own(p, active, short, many))
		}
	}
	for state := -1024; state <= 1024; state++ {
		i := own()
		i.State = state
		if state >= 0 && state <= 7 {
			isNew(t, i)
		} else {
			refused(t, i)
		}
	}
	for _, state := range []int{math.MinInt, math.MinInt + 7, math.MaxInt, 1<<32 + 1, -8, -256 + 1} {
		i := own()
		i.State = state
		refused(t, i)
	}
}

// P13.1: each bit of Mux alone, all of them, each choice of them, and none again; what was set ahead is gone.
func TestMux(t *testing.T) {
	for makes := range 8 {
		i := own()
		i.State = makes
		for state := range 4 {
			h := standing(t, i, state)
			for was := range 8 {
				for b := range 8 {
					if e := h.mux(was * 8); e != ok {
						t.Fatalf("Mux(%d): %d", was*8, e)
					}
					if e := h.mux(b * 8); e != ok {
						t.Fatalf("Mux(%d): %d", b*8, e)
					}
					want := makes + b*8
					switch state {
					case defaulted:
						want += 64
					case expired:
						want += 128
					}
					if a := h.x.Actor(); a.State != want {
						t.Fatalf("State of what is told: %d, must be %d", a.State, want)
					}
				}
			}
		}
	}
}

// P13.1, R1: another bit, alone and beside those that may be, and a number below 0: ErrArg, and nothing is changed.
func TestMuxRefuses(t *testing.T) {
	for state := range 4 {
		for _, was := range []int{0, bits(sync), bits(collect, send), bits(sync, collect, send)} {
			h := standing(t, own(active, many), state)
			h.mux(was)
			refused := func(b int) {
				t.Helper()
				if e := h.mux(b); e != errArg {
					t.Fatalf("Mux(%d): %d, must be %d", b, e, errArg)
				}
			}
			for p := range 64 {
				if p >= sync && p <= send {
					continue
				}
				refused(bits(p))
				refused(bits(p, sync))
				refused(bits(p, sync, collect, send))
			}
			for _, b := range []int{-1, -8, -56, -64, math.MinInt, math.MinInt + 8, math.MaxInt, 255, 57, 64 + 8, 1<<32 + 8} {
				refused(b)
			}
		}
	}
}

// P13.1: Mux changes nothing else: neither where an end stands, nor what it knows, nor how long it waits.
func TestMuxAlone(t *testing.T) {
	for _, i := range []api.Info{own(many), own(many, short)} {
		h := standing(t, i, current)
		h.mux(bits(sync, collect, send))
		h.knows(other(many, sync))
		wait := 90
		if has(i.State, short) {
			wait = 3
		}
		h.ticks(begun+wait-1, current)
		h.mux(0)
		h.ticks(begun+wait, expired)
		h.mux(bits(sync))
		h.ticks(begun+wait+2, expired)
		h.ticks(begun+wait+3, defaulted)
		h.enable(false, begun)
		h.stands(down)
		if a := h.x.Actor(); a.State != i.State|bits(sync) {
			t.Errorf("State of what is told: %d", a.State)
		}
	}
}

// Words: what an end tells at each state, with each of Mux's bits: all that it was made of, and no bit of the Partner's.
func TestActor(t *testing.T) {
	for _, i := range []api.Info{own(), own(active), own(short), own(many), own(active, short, many), {}, {SysPrio: 65535, Key: 65535, PortPrio: 65535, Port: 65535}} {
		for state, more := range [][]int{down: {}, expired: {isExpired}, defaulted: {isDefault}, current: {}} {
			for _, b := range [][]int{{}, {sync}, {collect}, {send}, {sync, collect}, {sync, send}, {collect, send}, {sync, collect, send}} {
				h := standing(t, i, state)
				h.mux(bits(b...))
				want := i
				want.State += bits(b...) + bits(more...)
				if a := h.x.Actor(); a != want {
					t.Fatalf("Actor: %+v, must be %+v", a, want)
				}
			}
		}
	}
}

// Words: BitDefault and BitExpired are told but where the end is so, not behind it.
func TestActorBehindIt(t *testing.T) {
	h := made(t, own(many))
	tells := func(places ...int) {
		t.Helper()
		if a := h.x.Actor(); a.State != bits(places...) {
			t.Fatalf("State of what is told: %d, must be %d", a.State, bits(places...))
		}
	}
	tells(many)
	h.enable(true, 0)
	tells(many, isExpired)
	h.tick(3)
	tells(many, isDefault)
	h.take(api.Lacp{Actor: other()}, 4)
	tells(many)
	h.tick(94)
	tells(many, isExpired)
	h.take(api.Lacp{Actor: other()}, 95)
	tells(many)
	h.tick(185)
	h.tick(188)
	tells(many, isDefault)
	h.enable(false, 188)
	tells(many)
	h.enable(true, 188)
	tells(many, isExpired)
	h.enable(false, 188)
	tells(many)
}

// P13.2, P13.3, R1: at a number that is no moment each of the three is ErrArg, and nothing is changed, at each state.
func TestNoMoment(t *testing.T) {
	for state := range 4 {
		for _, i := range []api.Info{own(many), own(many, short)} {
			h := standing(t, i, state)
			h.mux(bits(sync))
			for _, now := range noMoments() {
				for _, is := range []bool{true, false} {
					if e := h.enable(is, now); e != errArg {
						t.Fatalf("Enable(%t, %d): %d", is, now, e)
					}
				}
				h.takes(api.Lacp{Actor: other(many, sync), Partner: h.x.Actor()}, now, false, errArg)
				h.takes(api.Lacp{Actor: other(short)}, now, false, errArg)
				if e := h.tick(now); e != errArg {
					t.Fatalf("Tick(%d): %d", now, e)
				}
				h.stands(state)
			}
			// Nor is it changed for how long it waits.
			h.waits(begun)
		}
	}
}

// waits holds that an end waits from that moment on: that it becomes what it becomes next just then.
func (h *held) waits(from int) {
	h.t.Helper()
	wait, next := 90, expired
	switch {
	case h.m.state == down || h.m.state == defaulted:
		for _, now := range []int{from, from + 3, from + 90, from + 1000, maxTime} {
			h.ticks(now, h.m.state)
		}
		return
	case h.m.state == expired:
		wait, next = 3, defaulted
	case has(h.m.made.State, short):
		wait = 3
	}
	h.ticks(from+wait-1, h.m.state)
	h.ticks(from+wait, next)
}

// P13.2, P13.3: the first moment and the last one, at each state.
func TestEdgesOfMoments(t *testing.T) {
	for _, now := range []int{0, 1, maxTime - 1, maxTime} {
		for state := range 4 {
			for _, is := range []bool{true, false} {
				h := standing(t, own(many), state)
				if e := h.enable(is, now); e != ok {
					t.Errorf("Enable(%t, %d): %d", is, now, e)
				}
				switch {
				case !is:
					h.stands(down)
				case state == down:
					h.stands(expired)
				default:
					h.stands(state)
				}
			}
			h := standing(t, own(many), state)
			if e := h.tick(now); e != ok {
				t.Errorf("Tick(%d): %d", now, e)
			}
			h = standing(t, own(many), state)
			if state == down {
				h.takes(api.Lacp{Actor: other(sync)}, now, false, errDown)
			} else {
				h.takes(api.Lacp{Actor: other(sync)}, now, true, ok)
				h.stands(current)
			}
		}
	}
	h := made(t, own(short))
	h.enable(true, maxTime-3)
	h.ticks(maxTime-1, expired)
	h.ticks(maxTime, defaulted)
	h.take(api.Lacp{Actor: other()}, maxTime)
	h.ticks(maxTime, current) // there is no moment at which it has waited for so long
	h.enable(false, maxTime)
	h.enable(true, maxTime)
	h.ticks(maxTime, expired)
	h = made(t, own())
	h.enable(true, 0)
	h.ticks(0, expired)
	h.ticks(maxTime, defaulted)
	h.take(api.Lacp{Actor: other()}, 0)
	h.ticks(0, current)
	h.ticks(maxTime, expired)
}

// P13.2: Enable of an end that is Down: Expired, it waits from then on, and its Partner has BitShort, and all that it was known to be.
func TestEnable(t *testing.T) {
	for _, i := range []api.Info{own(many), own(short, many)} {
		h := made(t, i)
		h.enable(true, begun)
		h.stands(expired)
		h.knows(api.Info{State: bits(short)})
		h.waits(begun)
		// One that was Down behind having known another one knows it still.
		h = standing(t, i, current)
		h.enable(false, begun+1)
		h.knows(other(many))
		h.enable(true, begun+50)
		h.stands(expired)
		h.knows(other(many, short))
		h.waits(begun + 50)
		// At a moment ahead of the last one it waits from that one on.
		h = standing(t, i, current)
		h.enable(false, begun+1)
		h.enable(true, 10)
		h.stands(expired)
		h.waits(10)
	}
}

// P13.2: Enable of an end that is not Down does nothing: it waits on as it did.
func TestEnableAgain(t *testing.T) {
	for _, i := range []api.Info{own(many), own(short, many)} {
		for state := expired; state <= current; state++ {
			h := standing(t, i, state)
			was := h.x.Partner()
			for _, now := range []int{begun, begun + 1, begun + 2, begun + 1000, begun - 100, 0, maxTime} {
				h.enable(true, now)
				h.stands(state)
				h.knows(was)
			}
			h.waits(begun)
		}
	}
}

// P13.2: Enable(false) at each state: Down, and BitSync of the Partner's State goes; all else of the Partner stays, and BitShort doesn't come.
func TestDisable(t *testing.T) {
	for _, c := range []struct {
		state int
		want  api.Info
	}{
		{down, api.Info{}},
		{expired, api.Info{State: bits(short)}},
		{defaulted, api.Info{}},
		{current, other(many)},
	} {
		h := standing(t, own(many), c.state)
		for _, now := range []int{begun + 1, 0, maxTime} { // more than once is no other thing
			h.enable(false, now)
			h.stands(down)
			h.knows(c.want)
		}
		h.ticks(maxTime, down)
		h.knows(c.want)
		h.takes(api.Lacp{Actor: other(many, sync), Partner: own(many)}, begun, false, errDown)
		h.knows(c.want)
	}
	for state := range 256 {
		h := standing(t, own(many), current)
		i := other()
		i.State = state
		h.take(api.Lacp{Actor: i, Partner: own(many)}, begun)
		h.enable(false, begun)
		i.State = state &^ bits(sync)
		h.knows(i)
	}
}

// P13.2: what becomes Expired: BitSync goes and BitShort comes, all else of the Partner stays.
func TestBecomesExpired(t *testing.T) {
	for state := range 256 {
		h := standing(t, own(many), current)
		i := other()
		i.State = state
		h.take(api.Lacp{Actor: i, Partner: own(many)}, begun)
		h.knows(i)
		h.ticks(begun+90, expired)
		i.State = state&^bits(sync) | bits(short)
		h.knows(i)
		h.ticks(begun+92, expired)
		h.knows(i)
		h.ticks(begun+93, defaulted)
		h.knows(api.Info{})
	}
}

// P13.2: a Tick one moment ahead of the wait, at it, and long behind it, at each state, with BitShort in what it was made of and without.
func TestTick(t *testing.T) {
	for _, c := range []struct {
		i           api.Info
		state, wait int
		next        int
	}{
		{own(many), current, 90, expired},
		{own(many, active), current, 90, expired},
		{own(many, short), current, 3, expired},
		{own(many, short, active), current, 3, expired},
		{own(many), expired, 3, defaulted},
		{own(many, active), expired, 3, defaulted},
		{own(many, short), expired, 3, defaulted},
	} {
		for _, by := range []int{c.wait, c.wait + 1, 2 * c.wait, 91, 1 << 20, maxTime - begun} {
			h := standing(t, c.i, c.state)
			for n := range c.wait {
				h.ticks(begun+n, c.state)
			}
			h.ticks(begun+by, c.next)
			// It waits from that Tick on, not from the end of its wait.
			if c.next == expired && begun+by+3 <= maxTime {
				h.ticks(begun+by, expired)
				h.waits(begun + by)
			}
		}
	}
	for _, i := range []api.Info{own(many), own(many, short)} {
		for _, state := range []int{down, defaulted} {
			h := standing(t, i, state)
			for _, now := range []int{begun, begun + 3, begun + 90, begun + 93, 1 << 30, maxTime, 0} {
				h.ticks(now, state)
			}
		}
	}
}

// P13.2: what the Partner tells of BitShort is no matter: an end waits by what it was made of.
func TestWaitIsOwn(t *testing.T) {
	h := standing(t, own(many), current)
	h.take(api.Lacp{Actor: other(many, short), Partner: own(many, short)}, begun)
	h.waits(begun)
	h = standing(t, own(many, short), current)
	h.take(api.Lacp{Actor: other(many), Partner: own(many)}, begun)
	h.waits(begun)
}

// P13.2: a Tick at a moment ahead of the last one changes nothing, nor for how long the end waits.
func TestTickAhead(t *testing.T) {
	for _, i := range []api.Info{own(many), own(many, short)} {
		for state := range 4 {
			h := standing(t, i, state)
			for _, now := range []int{begun - 1, begun - 3, begun - 90, begun - 91, 0} {
				h.ticks(now, state)
			}
			h.waits(begun)
		}
	}
	h := standing(t, own(many), current)
	h.ticks(begun+89, current)
	h.ticks(begun+50, current)
	h.ticks(begun+90, expired)
	h.ticks(begun+50, expired)
	h.ticks(begun+93, defaulted)
	h.ticks(begun+50, defaulted)
}

// P13.2: one Tick changes one thing, however long it comes behind.
func TestOneAtATick(t *testing.T) {
	for _, i := range []api.Info{own(many), own(many, short)} {
		h := standing(t, i, current)
		h.ticks(maxTime-3, expired)
		h.ticks(maxTime-3, expired)
		h.ticks(maxTime-1, expired)
		h.ticks(maxTime, defaulted)
		h.ticks(maxTime, defaulted)
	}
}

// In what ways a Take may be wrong, in the order in which their errors are named.
const (
	atNoMoment = iota
	whereDown
	ofNoForm
	ofItself
	noWrong
)

// P13.3, R1: where several errors hold, the first of them; and nothing is changed.
func TestFirstError(t *testing.T) {
	wants := []int{atNoMoment: errArg, whereDown: errDown, ofNoForm: errForm, ofItself: errThere, noWrong: ok}
	for set := range 16 {
		for state := range 4 {
			if has(set, whereDown) != (state == down) {
				continue
			}
			h := standing(t, own(many, active), state)
			l, now := api.Lacp{Actor: other(many, sync), Partner: h.x.Actor()}, begun+1
			if has(set, atNoMoment) {
				now = -1
			}
			if has(set, ofItself) {
				l.Actor.Sys, l.Actor.Port = own().Sys, own().Port
			}
			if has(set, ofNoForm) {
				l.Actor.Key = 65536
			}
			first := 0
			for first < noWrong && !has(set, first) {
				first++
			}
			was := h.x.Partner()
			h.takes(l, now, false, wants[first])
			if first < noWrong {
				h.knows(was)
				h.stands(state)
				h.waits(begun)
			}
		}
	}
}

// P13.3: a LACPDU that may not be: each number of it below and above what it may be, far ones, and at its edges.
func TestForm(t *testing.T) {
	fields := func(l *api.Lacp) []*int {
		return append(append(numbers(&l.Actor), numbers(&l.Partner)...), &l.Delay, &l.Actor.State, &l.Partner.State)
	}
	for state := expired; state <= current; state++ {
		for k := range 11 {
			most := 65535
			if k > 8 {
				most = 255
			}
			h := standing(t, own(many), state)
			for _, n := range []int{-1, most + 1, -2, most + 2, -most, 2*most + 2, 1 << 32, 1<<40 + 1, math.MinInt, math.MaxInt} {
				l := api.Lacp{Actor: other(many, sync), Partner: h.x.Actor(), Delay: 5}
				*fields(&l)[k] = n
				h.takes(l, begun, false, errForm)
				l.Actor.Sys, l.Actor.Port = own().Sys, own().Port
				if k != 3 {
					h.takes(l, begun, false, errForm)
				}
			}
			h.stands(state)
			h.waits(begun)
			for _, n := range []int{0, 1, most - 1, most} {
				h := standing(t, own(many), state)
				l := api.Lacp{Actor: other(many, sync), Partner: h.x.Actor(), Delay: 5}
				*fields(&l)[k] = n
				if _, e := h.take(l, begun); e != ok {
					t.Fatalf("Take(%+v): %d", l, e)
				}
				h.stands(current)
			}
		}
	}
}

// P13.3: one whose Actor is of the end's own Sys and Port, of its Sys alone, of its Port alone, whatever else they have.
func TestThere(t *testing.T) {
	for _, i := range []api.Info{own(many), {}, {Sys: api.Mac{1}}, {Port: 65535}} {
		for state := expired; state <= current; state++ {
			h := standing(t, i, state)
			same, sys, port := other(many, sync), other(many, sync), other(many, sync)
			same.Sys, same.Port = i.Sys, i.Port
			sys.Sys = i.Sys
			port.Port = i.Port
			for _, a := range []api.Info{same, i, h.x.Actor(), {Sys: i.Sys, Port: i.Port}} {
				h.takes(api.Lacp{Actor: a}, begun, false, errThere)
				h.takes(api.Lacp{Actor: a, Partner: h.x.Actor()}, begun, false, errThere)
				h.stands(state)
			}
			for _, a := range []api.Info{sys, port} {
				h := standing(t, i, state)
				h.takes(api.Lacp{Actor: a, Partner: h.x.Actor()}, begun, false, ok)
				h.knows(a)
				h.stands(current)
			}
			for k := range 6 { // one byte of Sys is enough to be another one
				h := standing(t, i, state)
				a := same
				a.Sys[k] ^= 1
				h.takes(api.Lacp{Actor: a, Partner: h.x.Actor()}, begun, false, ok)
			}
			h.takes(api.Lacp{Actor: other(), Partner: i}, begun, false, ok)
		}
	}
}

// anew is what Take tells of one whose Partner is that one, of an end of that state, made of own(places), with those bits of Mux.
func anew(t *testing.T, i api.Info, state, mux int, partner api.Info) bool {
	t.Helper()
	h := standing(t, i, state)
	h.mux(mux)
	told, e := h.take(api.Lacp{Actor: other(many), Partner: partner}, begun)
	if e != ok {
		t.Fatalf("Take: %d", e)
	}
	return told
}

// P13.3: whether to tell anew, for each number and each byte of Sys that differs.
func TestAnewByNumbers(t *testing.T) {
	for state := expired; state <= current; state++ {
		for _, i := range []api.Info{own(many), own(active, short, many), own()} {
			for k := range 4 {
				for _, by := range []int{1, -1, 256, 1 << 14} {
					p := i
					*numbers(&p)[k] += by
					if !mayBe(p) {
						continue
					}
					if !anew(t, i, state, 0, p) {
						t.Errorf("%+v is not what %+v tells, but that need not be told", p, i)
					}
				}
			}
			for k := range 6 {
				for _, bit := range []byte{1, 2, 128} {
					p := i
					p.Sys[k] ^= bit
					if !anew(t, i, state, 0, p) {
						t.Errorf("%+v is not what %+v tells, but that need not be told", p, i)
					}
				}
			}
			swapped := i
			swapped.Key, swapped.PortPrio = i.PortPrio, i.Key
			if !anew(t, i, state, 0, swapped) || !anew(t, i, state, 0, api.Info{}) || !anew(t, i, state, 0, other(many)) {
				t.Errorf("another info than %+v need not be told", i)
			}
			if anew(t, i, state, 0, i) {
				t.Errorf("%+v must be told anew, though it is known", i)
			}
		}
	}
}

// P13.3: whether to tell anew, for each State that the other end may know: BitActive, BitShort, BitMany and BitSync count, no other bit.
func TestAnewByState(t *testing.T) {
	for state := expired; state <= current; state++ {
		for makes := range 8 {
			for _, mux := range []int{0, bits(sync), bits(collect, send), bits(sync, collect, send)} {
				i := own()
				i.State = makes
				for s := range 256 {
					p := own()
					p.State = s
					want := s%16 != makes+mux%16
					if got := anew(t, i, state, mux, p); got != want {
						t.Fatalf("State %d, of one made of %d, with %d: %t, must be %t", s, makes, mux, got, want)
					}
				}
			}
		}
	}
}

// P13.3: what is known is held against what the end tells ahead of the call; that call makes it Current, and no bit that counts is other then.
func TestAnewIsOfAhead(t *testing.T) {
	h := made(t, own(many))
	h.enable(true, begun)
	ahead := h.x.Actor()
	h.takes(api.Lacp{Actor: other(many), Partner: ahead}, begun, false, ok)
	h.takes(api.Lacp{Actor: other(many), Partner: ahead}, begun, false, ok)
	h.mux(bits(sync))
	h.takes(api.Lacp{Actor: other(many), Partner: ahead}, begun, true, ok)
	ahead = h.x.Actor()
	h.takes(api.Lacp{Actor: other(many), Partner: ahead}, begun, false, ok)
	h.mux(0)
	h.takes(api.Lacp{Actor: other(many), Partner: ahead}, begun, true, ok)
	// What was told at an earlier call is no matter.
	for range 3 {
		h.takes(api.Lacp{Actor: other(many)}, begun, true, ok)
		h.takes(api.Lacp{Actor: other(many), Partner: h.x.Actor()}, begun, false, ok)
	}
}

// P13.3: the Partner behind it, for each State of the Actor's: without BitSync, unless the end is known, or the Actor has no BitMany.
func TestPartner(t *testing.T) {
	for state := expired; state <= current; state++ {
		for s := range 256 {
			a := other()
			a.State = s
			h := standing(t, own(many), state)
			h.take(api.Lacp{Actor: a, Partner: h.x.Actor()}, begun)
			h.knows(a)
			for _, p := range []api.Info{{}, other(many), own(), own(active), own(many, sync)} {
				h := standing(t, own(many), state)
				h.take(api.Lacp{Actor: a, Partner: p}, begun)
				want := a
				if has(s, many) {
					want.State = s &^ bits(sync)
				}
				h.knows(want)
				h.stands(current)
			}
		}
	}
}

// P13.3: what known is: the same numbers and Sys, and BitMany; BitSync, if the other end knows of it; no other bit.
func TestKnown(t *testing.T) {
	for makes := range 8 {
		for _, mux := range []int{0, bits(sync), bits(collect), bits(sync, collect, send)} {
			for s := range 256 {
				i, p := own(), own()
				i.State, p.State = makes, s
				h := standing(t, i, current)
				h.mux(mux)
				h.take(api.Lacp{Actor: other(many, sync), Partner: p}, begun)
				known := has(s, many) == has(makes, many) && (!has(s, sync) || has(mux, sync))
				if got := has(h.x.Partner().State, sync); got != known {
					t.Fatalf("known by State %d, of one made of %d, with %d: %t", s, makes, mux, got)
				}
			}
		}
	}
	for k := range 4 {
		h := standing(t, own(many), current)
		p := own(many)
		*numbers(&p)[k]++
		h.take(api.Lacp{Actor: other(many, sync), Partner: p}, begun)
		h.knows(other(many))
	}
	for k := range 6 {
		h := standing(t, own(many), current)
		p := own(many)
		p.Sys[k] ^= 64
		h.take(api.Lacp{Actor: other(many, sync), Partner: p}, begun)
		h.knows(other(many))
	}
}

// P13.3: nothing of the Partner that was known ahead is left.
func TestPartnerIsWhole(t *testing.T) {
	for state := expired; state <= current; state++ {
		h := standing(t, own(many), state)
		for _, a := range []api.Info{{Port: 1}, other(short, sync, send), {SysPrio: 65535, Sys: api.Mac{255, 255, 255, 255, 255, 255}, Key: 65535, PortPrio: 65535, Port: 65535, State: 255 - 4}, {Sys: api.Mac{9}}, other()} {
			h.take(api.Lacp{Actor: a, Partner: other(many), Delay: 65535}, begun)
			h.knows(a)
		}
	}
}

// P13.3: a Take lets the end wait from then on, of a moment ahead of the last one, too.
func TestTakeWaits(t *testing.T) {
	for _, i := range []api.Info{own(many), own(many, short)} {
		for state := expired; state <= current; state++ {
			for _, now := range []int{begun, begun + 1, begun + 2, begun + 89, begun + 90, begun + 5000, begun - 1, begun - 90, 500, 0} {
				h := standing(t, i, state)
				h.take(api.Lacp{Actor: other(many)}, now)
				h.stands(current)
				h.waits(now)
			}
		}
	}
	h := standing(t, own(many), current)
	h.ticks(begun+80, current)
	h.take(api.Lacp{Actor: other(many)}, begun+20)
	h.ticks(begun+109, current)
	h.take(api.Lacp{Actor: other(many)}, 5)
	h.ticks(94, current)
	h.ticks(95, expired)
}

// P13.3: a Take that is refused doesn't let the end wait anew, nor make it Current.
func TestRefusedTakeWaitsOn(t *testing.T) {
	for _, i := range []api.Info{own(many), own(many, short)} {
		for state := range 4 {
			h := standing(t, i, state)
			h.take(api.Lacp{Actor: other(many), Delay: -1}, begun+2)
			h.take(api.Lacp{Actor: own()}, begun+2)
			h.take(api.Lacp{Actor: other(many)}, -5)
			h.take(api.Lacp{Actor: other(many)}, maxTime+1)
			if state == down {
				h.take(api.Lacp{Actor: other(many)}, begun+2)
			}
			h.stands(state)
			h.waits(begun)
		}
	}
}

// P13.4: an end that hears nothing, from any moment on, and whatever it knew, is Expired, then Defaulted and knows nothing.
func TestTheoremOfSilence(t *testing.T) {
	r := rand.New(rand.NewPCG(13, 4))
	for range 2000 {
		h := made(t, anyOwn(r))
		h.x.Enable(true, r.IntN(100))
		for range r.IntN(5) {
			h.x.Take(anyLacp(r, h.x), r.IntN(200))
			h.x.Tick(r.IntN(200))
		}
		now := 200 + r.IntN(50)
		was := h.x.State()
		if _, e := h.x.Take(api.Lacp{Actor: api.Info{Key: 9, Port: 70, State: r.IntN(256)}, Partner: h.x.Actor()}, now); e != ok {
			t.Fatalf("Take at the state %d: %d", was, e)
		}
		// Enable of one that is not Down, and Mux, are no hearing.
		h.x.Enable(true, now+r.IntN(90))
		h.x.Mux(8 * r.IntN(8))
		now += 90 + r.IntN(2)*r.IntN(1000)
		h.x.Tick(now)
		if s, p := h.x.State(), h.x.Partner(); s != expired || has(p.State, sync) || !has(p.State, short) || !has(h.x.Actor().State, isExpired) {
			t.Fatalf("90 moments on: %d, %+v", s, p)
		}
		now += 3 + r.IntN(2)*r.IntN(1000)
		h.x.Tick(now)
		if s, p := h.x.State(), h.x.Partner(); s != defaulted || p != (api.Info{}) || !has(h.x.Actor().State, isDefault) {
			t.Fatalf("3 moments more: %d, %+v", s, p)
		}
		h.x.Tick(now + r.IntN(1000))
		if s, p := h.x.State(), h.x.Partner(); s != defaulted || p != (api.Info{}) {
			t.Fatalf("and behind that: %d, %+v", s, p)
		}
	}
}

// P13.4: two ends that hear one another, whatever each one was made of, are Current, know one another, and stay so.
func TestTheoremOfTwo(t *testing.T) {
	r := rand.New(rand.NewPCG(4, 13))
	for range 2000 {
		a, b := anyOwn(r), anyOwn(r)
		a.Sys[5], b.Sys[5] = 1, 2
		x, y := made(t, a).x, made(t, b).x
		x.Mux(8 * r.IntN(8))
		y.Mux(8 * r.IntN(8))
		x.Enable(true, r.IntN(10))
		y.Enable(true, r.IntN(10))
		now := 10
		for round := range 6 {
			now += 1 + r.IntN(2)
			tell(t, x, y, now)
			tell(t, y, x, now)
			if round == 0 {
				continue
			}
			if x.State() != current || y.State() != current {
				t.Fatalf("round %d: %d, %d", round, x.State(), y.State())
			}
			if p, q := x.Partner(), y.Partner(); round > 1 && (p != y.Actor() || q != x.Actor()) {
				t.Fatalf("round %d: %+v is known as %+v, %+v as %+v", round, y.Actor(), p, x.Actor(), q)
			}
			x.Tick(now)
			y.Tick(now)
		}
	}
}

// tell lets one end hear what another one tells, and knows.
func tell(t *testing.T, from, to *End, now int) {
	t.Helper()
	l := api.Lacp{Actor: from.Actor(), Partner: from.Partner()}
	if _, e := to.Take(l, now); e != ok {
		t.Fatalf("Take(%+v, %d): %d", l, now, e)
	}
}

// P13.4: once both know one another neither need tell anew, but where Mux sets another BitSync.
func TestTheoremOfTelling(t *testing.T) {
	x, y := made(t, own(active, short, many)).x, made(t, other(active, many)).x
	x.Enable(true, 0)
	y.Enable(true, 0)
	tell(t, x, y, 1)
	tell(t, y, x, 1)
	tell(t, x, y, 1)
	hears := func(from, to *End, want bool) {
		t.Helper()
		if anew, e := to.Take(api.Lacp{Actor: from.Actor(), Partner: from.Partner()}, 2); anew != want || e != ok {
			t.Fatalf("Take tells %t, %d, must be %t", anew, e, want)
		}
	}
	for _, set := range []int{bits(sync), 0, bits(sync, collect), bits(sync, collect, send), bits(collect)} {
		was := y.Actor()
		y.Mux(set)
		turned := has(was.State, sync) != has(set, sync)
		hears(x, y, turned)
		hears(y, x, false)
		hears(x, y, false)
		hears(y, x, false)
		if x.Partner() != y.Actor() {
			t.Errorf("%+v is known as %+v", y.Actor(), x.Partner())
		}
	}
}

// anyOwn is an info that an end may be made of.
func anyOwn(r *rand.Rand) api.Info {
	i := api.Info{SysPrio: r.IntN(3), Key: r.IntN(3), PortPrio: r.IntN(3), Port: r.IntN(3), State: r.IntN(8)}
	i.Sys[r.IntN(6)] = byte(r.IntN(3))
	return i
}

// anyLacp is one that an end may hear: of another end, of itself, of one that knows it or nearly does, or one that may not be.
func anyLacp(r *rand.Rand, x *End) api.Lacp {
	l := api.Lacp{Actor: anyOwn(r), Partner: anyOwn(r), Delay: r.IntN(9)}
	l.Actor.State, l.Partner.State = r.IntN(256), r.IntN(256)
	if r.IntN(2) == 0 {
		l.Partner = x.Actor()
	}
	if r.IntN(4) == 0 {
		l.Partner.State ^= 1 << r.IntN(8)
	}
	if r.IntN(8) == 0 {
		*numbers(&l.Partner)[r.IntN(4)]++
	}
	switch r.IntN(16) {
	case 0:
		l.Actor.Sys, l.Actor.Port = x.Actor().Sys, x.Actor().Port
	case 1:
		*numbers(&l.Actor)[r.IntN(4)] = []int{-1, 65536, math.MinInt}[r.IntN(3)]
	case 2:
		l.Partner.State = []int{-1, 256, math.MaxInt}[r.IntN(3)]
	case 3:
		l.Delay = []int{-1, 65535, 65536}[r.IntN(3)]
	}
	return l
}

// act does one call that the numbers tell.
func act(h *held, r *rand.Rand, do, now int) {
	h.t.Helper()
	switch do % 8 {
	case 0, 1, 2:
		h.tick(now)
	case 3, 4, 5:
		h.take(anyLacp(r, h.x), now)
	case 6:
		h.enable(do/8%4 != 0, now)
	case 7:
		h.mux(do / 8 * 8 % 128)
	}
}

// P13.1 to P13.3: any calls in any order, held against the model.
func TestAnyCalls(t *testing.T) {
	r := rand.New(rand.NewPCG(1, 13))
	for range 300 {
		h := made(t, anyOwn(r))
		now := 0
		for range 200 {
			switch r.IntN(12) {
			case 0:
				now += 85 + r.IntN(10)
			case 1:
				now = max(0, now-r.IntN(100))
			case 2:
				now += r.IntN(500)
			default:
				now += r.IntN(3)
			}
			at := now
			if r.IntN(30) == 0 {
				at = noMoments()[r.IntN(11)]
			}
			act(h, r, r.IntN(256), at)
		}
	}
}

// R3: what is told is the caller's own, and what was handed in doesn't stay bound to the end.
func TestOwn(t *testing.T) {
	i := own(many)
	x, _ := New(i)
	i.Key, i.Sys[0] = 99, 99
	a := x.Actor()
	if a != own(many) {
		t.Errorf("Actor: %+v", a)
	}
	a.Key, a.Sys[0] = 98, 98
	if x.Actor() != own(many) {
		t.Errorf("Actor behind a change of what was told: %+v", x.Actor())
	}
	x.Enable(true, 0)
	l := api.Lacp{Actor: other(many, sync), Partner: own(many), Delay: 7}
	was := l
	x.Take(l, 0)
	if l != was {
		t.Errorf("what was handed in: %+v", l)
	}
	l.Actor.Key, l.Actor.Sys[0] = 97, 97
	p := x.Partner()
	if p != other(many, sync) {
		t.Errorf("Partner: %+v", p)
	}
	p.Key, p.Sys[0] = 96, 96
	if x.Partner() != other(many, sync) {
		t.Errorf("Partner behind a change of what was told: %+v", x.Partner())
	}
}

// R4: two ends have nothing to do with one another, and asking changes nothing.
func TestEndsAreApart(t *testing.T) {
	h, k := standing(t, own(many), current), made(t, own(many))
	for range 3 {
		k.holds()
		k.enable(true, 5)
		k.mux(bits(sync))
		k.ticks(8, defaulted)
		h.holds()
		k.enable(false, 9)
		h.holds()
	}
	h.stands(current)
	h.knows(other(many, sync))
	h.waits(begun)
	k.holds()
}

// R6: of the program's packages the end calls lacpdu alone.
func TestCalls(t *testing.T) {
	files, _ := filepath.Glob("*.go")
	for _, name := range files {
		if strings.HasSuffix(name, "_test.go") {
			continue
		}
		f, e := parser.ParseFile(token.NewFileSet(), name, nil, parser.ImportsOnly)
		if e != nil {
			t.Fatal(e)
		}
		for _, i := range f.Imports {
			if strings.HasPrefix(i.Path.Value, `"gemel/`) && i.Path.Value != `"gemel/api"` && i.Path.Value != `"gemel/lacpdu"` {
				t.Errorf("%s imports %s", name, i.Path.Value)
			}
		}
	}
}

// The chapter's example.
func TestExample(t *testing.T) {
	h := made(t, own(short))
	h.enable(true, 0)
	h.takes(api.Lacp{Actor: other(many, sync), Partner: h.x.Actor()}, 0, false, ok)
	h.stands(current)
	h.knows(other(many, sync))
	h.ticks(3, expired)
	h.ticks(6, defaulted)
}

// FuzzEnd: whatever is called, nothing panics, and the end answers as the model does.
func FuzzEnd(f *testing.F) {
	f.Add(1, 1, 1, 1, 4, uint64(1), []byte{14, 0, 3, 1, 0, 90, 0, 3})
	f.Add(0, 0, 0, 0, 3, uint64(2), []byte{14, 5, 7, 8, 4, 1, 0, 3, 6, 9})
	f.Add(65535, -1, 65536, 0, 255, uint64(3), []byte{})
	f.Fuzz(func(t *testing.T, sysPrio, key, portPrio, port, state int, seed uint64, b []byte) {
		i := api.Info{SysPrio: sysPrio, Sys: api.Mac{1}, Key: key, PortPrio: portPrio, Port: port, State: state}
		if !mayBe(i) || state > 7 {
			refused(t, i)
			return
		}
		h := made(t, i)
		r := rand.New(rand.NewPCG(seed, 0))
		now := 0
		for k := 0; k+1 < min(len(b), 1000); k += 2 {
			switch {
			case b[k+1] < 200:
				now = min(now+int(b[k+1]), maxTime)
			case b[k+1] < 250:
				now = max(0, now-int(b[k+1])+190)
			}
			at := now
			if b[k+1] > 250 {
				at = noMoments()[b[k+1]-251]
			}
			act(h, r, int(b[k]), at)
		}
	})
}
