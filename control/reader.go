package control

// reader hands out bytes, the first ones first; short tells that there were once too few.
type reader struct {
	rest  []byte
	short bool
}

// take hands out none where there are too few, and reading goes on: who reads asks for whole at the end alone.
func (r *reader) take(n int) []byte {
	if len(r.rest) < n {
		r.short = true
		return nil
	}
	taken := r.rest[:n]
	r.rest = r.rest[n:]
	return taken
}

// number is that of so many bytes, the highest one first.
func (r *reader) number(size int) int {
	n := 0
	for _, b := range r.take(size) {
		n = n<<8 | int(b)
	}
	return n
}

// whole tells whether there were just as many bytes as were taken.
func (r *reader) whole() bool { return !r.short && len(r.rest) == 0 }
