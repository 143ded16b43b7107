// Package chunk holds what the decoder and the coder of LZMA2's chunks (layers 11 and 12) have alike: how they begin, and which settings they may have.
package chunk

// The first bytes of chunks.
const (
	End        = 0 // no chunk comes any more
	PlainAnew  = 1 // plain, and the window is emptied ahead
	Plain      = 2
	PackedFrom = 128 // and How, and what is above the count of bytes that it tells

	AboveBits = 5
)

// How: what a packed chunk brings anew. Each brings what those ahead of it bring, too.
const (
	Nothing = iota
	State   // and distances and probabilities
	Setting
	Window // one that is emptied
)

// MostLcLp: Lc and Lp together.
const MostLcLp = 4
