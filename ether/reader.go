package ether

import "gemel/api"

// reader hands out bytes, the first ones first.
type reader struct {
	rest []byte
}

// take panics where there are too few, so that no field that is read has to ask whether it is there: Decode recovers for all of them.
func (r *reader) take(n int) []byte {
	if len(r.rest) < n {
		panic(api.ErrForm)
	}
	taken := r.rest[:n]
	r.rest = r.rest[n:]
	return taken
}

func (r *reader) mac() api.Mac {
	var m api.Mac
	copy(m[:], r.take(len(m)))
	return m
}

// pair is the number of two bytes, the higher first.
func (r *reader) pair() int {
	b := r.take(2)
	return int(b[0])<<8 | int(b[1])
}
