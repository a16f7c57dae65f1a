package fdb

import (
	"gemel/api"
	"gemel/mac"
)

// spread is 2^64 over the golden ratio: a product with it lets stations of close numbers begin far from each other.
const spread uint64 = 0x9e3779b97f4a7c15

// isFree tells whether a place holds nothing: no entry is of the VLAN 0, so none is zero.
func isFree(x api.Entry) bool { return x == api.Entry{} }

// first is the place at which an entry stands, if none was there ahead of it.
func (t *Table) first(vlan int, m api.Mac) int {
	n := (mac.Number(m)<<12 ^ uint64(vlan)) * spread
	return int((n >> 32) % uint64(len(t.places)))
}

func (t *Table) next(at int) int { return (at + 1) % len(t.places) }

// place is the one at which the entry of a VLAN and a Mac stands, or the free one at which it would.
func (t *Table) place(vlan int, m api.Mac) int {
	at := t.first(vlan, m)
going:
	for {
		switch x := t.places[at]; {
		case isFree(x):
			break going
		case x.Vlan == vlan && x.Mac == m:
			break going
		}
		at = t.next(at)
	}
	return at
}

// set puts an entry in its place, in that of one of the same VLAN and Mac, too.
func (t *Table) set(x api.Entry) api.Errno {
	at := t.place(x.Vlan, x.Mac)
	if isFree(t.places[at]) {
		if t.used == t.room {
			return api.ErrFull
		}
		t.used++
	}
	t.places[at] = x
	return api.OK
}

// takeOut frees a place. Those behind it move up, where that brings them no further than their first place: else going on from there would end at the free one, and not find them.
func (t *Table) takeOut(at int) {
	hole := at
	for at = t.next(at); !isFree(t.places[at]); at = t.next(at) {
		x := t.places[at]
		if t.way(t.first(x.Vlan, x.Mac), at) >= t.way(hole, at) {
			t.places[hole] = x
			hole = at
		}
	}
	t.places[hole] = api.Entry{}
	t.used--
}

// way is how many steps it is on from one place to another, past the last place to the first one.
func (t *Table) way(from, to int) int {
	return (to - from + len(t.places)) % len(t.places)
}
