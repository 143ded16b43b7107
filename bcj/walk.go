package bcj

const (
	callMark = 0xe8
	jumpMark = 0xe9

	wordLen  = 5 // a mark, and the four bytes behind it
	maskBits = 3
	masks    = 1 << maskBits
)

// allowed: by a mask, whether a word may be turned.
var allowed = [masks]bool{true, true, true, false, true, false, false, false}

// bits: by a mask, its bit: how many bytes ahead of a word's last one lies the byte that an elder mark's word ends with.
var bits = [masks]int{0, 1, 2, 2, 3, 3, 3, 3}

// walk goes through a list.
type walk struct {
	codes bool
	place int
	last  int // the place of the last mark
	mask  int // which of the places just ahead have marks whose words stayed as they were
}

func begin(codes bool) walk { return walk{codes: codes, last: -1} }

// marks: whether a word may begin with a byte.
func marks(x byte) bool { return x == callMark || x == jumpMark }

// edge: whether a word that is turned may end with a byte.
func edge(x byte) bool { return x == 0 || x == 255 }

// step goes past the first place of what is left of the list, or past a word that it turns; it says how many bytes these are.
func (w *walk) step(left []byte) int {
	n := 1
	if len(left) >= wordLen && marks(left[0]) {
		n = w.word(left[:wordLen])
	}
	w.place += n
	return n
}

// word turns a word, or lets it stay; it says how many bytes are done with.
func (w *walk) word(b []byte) int {
	w.age()
	if w.bars(b) || !edge(b[wordLen-1]) {
		w.mask = (2*w.mask)%masks | 1
		return 1
	}
	put(b[1:], w.turned(number(b[1:])))
	return wordLen
}

// age brings the mask from the last mark to the one at this place.
func (w *walk) age() {
	gap := w.place - w.last
	w.last = w.place
	if gap > maskBits {
		w.mask = 0
		return
	}
	w.mask = (w.mask << (gap - 1)) % masks
}

// bars: whether the mask lets no word be turned here, whatever it ends with.
func (w *walk) bars(b []byte) bool {
	return w.mask != 0 && (!allowed[w.mask] || edge(b[wordLen-1-bits[w.mask]]))
}

// turned: what s becomes. An elder mark's word must not come to end with an edge by it, else it would be decoded as if it were turned. (It ends: the byte at which the second target is looked at is the one that s had there, turned, and bars saw that it is no edge.)
func (w *walk) turned(s uint32) uint32 {
	k := 8 * bits[w.mask]
	t := w.target(s)
	for w.mask != 0 && edge(byte(t>>(24-k))) {
		t = w.target(t ^ (1<<(32-k) - 1))
	}
	return t
}

// target: a place told from here as one from the beginning on, or the other way round. It wraps.
func (w *walk) target(s uint32) uint32 {
	next := uint32(w.place + wordLen)
	if w.codes {
		return s + next
	}
	return s - next
}

// number: four bytes, the least first.
func number(b []byte) uint32 {
	return uint32(b[0]) | uint32(b[1])<<8 | uint32(b[2])<<16 | uint32(b[3])<<24
}

// put lays the least 25 bits of t into four bytes: the greatest one of them is a sign.
func put(b []byte, t uint32) {
	b[0], b[1], b[2] = byte(t), byte(t>>8), byte(t>>16)
	b[3] = 0
	if t>>24&1 == 1 {
		b[3] = 255
	}
}
