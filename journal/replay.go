package journal

import (
	"cmp"
	"slices"

	"gemel/api"
	"gemel/mac"
)

// station is what an entry is of.
type station struct {
	vlan int
	mac  api.Mac
}

// stations are entries, at most one of each station.
type stations map[station]api.Entry

// Replay is the entries that changes make of others.
func Replay(l []api.Entry, changes []api.Change) []api.Entry {
	s := stations{}
	for _, x := range l {
		s[of(x)] = x
	}
	for _, c := range changes {
		if c.Gone {
			delete(s, of(c.Entry))
		} else {
			s[of(c.Entry)] = c.Entry
		}
	}
	return s.inOrder()
}

func of(x api.Entry) station { return station{x.Vlan, x.Mac} }

// inOrder sorts, as a map has no order of its own.
func (s stations) inOrder() []api.Entry {
	var l []api.Entry
	for _, x := range s {
		l = append(l, x)
	}
	slices.SortFunc(l, func(a, b api.Entry) int {
		return cmp.Or(cmp.Compare(a.Vlan, b.Vlan), mac.Compare(a.Mac, b.Mac))
	})
	return l
}
