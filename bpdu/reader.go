package bpdu

// reader hands out bytes as numbers, the first ones first.
type reader struct {
	rest []byte
}

// number panics where there are too few bytes, as end does where there are too many: Decode recovers for both.
func (r *reader) number(size int) int {
	must(len(r.rest) >= size)
	n := 0
	for i := range size {
		n = n<<8 | int(r.rest[i])
	}
	r.rest = r.rest[size:]
	return n
}

func (r *reader) end() { must(len(r.rest) == 0) }
