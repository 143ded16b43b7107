package delta

// ring remembers the last bytes of the plain side, as many as the distance.
type ring struct {
	last [mostDist]byte
	dist int
	at   int // where the eldest byte lies, which the next one takes the place of: below dist
}

// decode: the plain byte of a coded one. It wraps.
func (r *ring) decode(x byte) byte {
	plain := x + r.last[r.at]
	r.put(plain)
	return plain
}

// code: the coded byte of a plain one. It wraps.
func (r *ring) code(plain byte) byte {
	x := plain - r.last[r.at]
	r.put(plain)
	return x
}

// put: a plain byte more.
func (r *ring) put(plain byte) {
	r.last[r.at] = plain
	r.at++
	if r.at == r.dist {
		r.at = 0
	}
}
