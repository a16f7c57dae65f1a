package lacpdu

import "gemel/api"

// reader hands out bytes, the first ones first.
type reader struct {
	rest []byte
}

// take panics where there are too few, as must and end do where bytes are wrong: Decode recovers for all of them.
func (r *reader) take(n int) []byte {
	if len(r.rest) < n {
		panic(api.ErrForm)
	}
	taken := r.rest[:n]
	r.rest = r.rest[n:]
	return taken
}

// must takes bytes that are to be just these.
func (r *reader) must(want ...byte) {
	for i, got := range r.take(len(want)) {
		if got != want[i] {
			panic(api.ErrForm)
		}
	}
}

func (r *reader) zeros(n int) { r.must(make([]byte, n)...) }

func (r *reader) end() {
	if len(r.rest) > 0 {
		panic(api.ErrForm)
	}
}

func (r *reader) single() int { return int(r.take(1)[0]) }

// pair is the number of two bytes, the higher first.
func (r *reader) pair() int {
	b := r.take(2)
	return int(b[0])<<8 | int(b[1])
}

func (r *reader) mac() api.Mac {
	var m api.Mac
	copy(m[:], r.take(len(m)))
	return m
}
