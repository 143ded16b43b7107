package arena

import (
	"slices"

	"garbler/api"
)

const (
	tillGlued = 255     // how often nothing may be found till blocks are glued again
	tooMany   = 1 << 16 // units that no glued block has
)

// begins says how many units the free block has that begins at a place.
type begins map[uint32]uint32

// glueAll: free blocks that lie side by side become one, and are laid into their rows anew.
func (a *Arena) glueAll() {
	a.glue = tillGlued
	places, blocks := a.all()
	clear(a.rows[:])
	for _, at := range slices.Backward(places) {
		blocks.takeIn(at)
	}
	for _, at := range slices.Backward(places) {
		if n, is := blocks[at]; is {
			a.layLong(int(at), int(n))
		}
	}
}

// all: the places of all free blocks, from the first size's front on, and their units.
func (a *Arena) all() ([]uint32, begins) {
	count := 0
	for _, r := range a.rows {
		count += len(r)
	}
	places, blocks := make([]uint32, 0, count), make(begins, count)
	for size, r := range a.rows {
		for _, at := range slices.Backward(r) {
			places = append(places, at)
			blocks[at] = uint32(sizes[size])
		}
	}
	return places, blocks
}

// takeIn: the block at a place takes in those that begin where it ends, one by one, if it wasn't taken in itself.
func (b begins) takeIn(at uint32) {
	n, is := b[at]
	for is {
		next := at + n*api.UnitLen
		more := b[next] // 0, if none begins there
		if more == 0 || n+more >= tooMany {
			return
		}
		delete(b, next)
		n += more
		b[at] = n
	}
}
