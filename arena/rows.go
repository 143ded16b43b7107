package arena

import "garbler/api"

// row is where free blocks of one size lie. The last one is the row's front. (Places are short here, as there may be many: the greatest fits.)
type row []uint32

// add: a free block comes to the front of its row.
func (a *Arena) add(at, size int) { a.rows[size] = append(a.rows[size], uint32(at)) }

// take: the block at the front of a row; 0, if there is none.
func (a *Arena) take(size int) int {
	r := a.rows[size]
	if len(r) == 0 {
		return 0
	}
	a.rows[size] = r[:len(r)-1]
	return int(r[len(r)-1])
}

// part: of a block just a lesser size is wanted; the rest is free.
func (a *Arena) part(at, size, less int) {
	a.lay(at+lenOf(less), sizes[size]-sizes[less])
}

// lay: n units become free. If there is no such size, they are two blocks, the first as great as may be.
func (a *Arena) lay(at, n int) {
	size := sizeFor(n)
	if sizes[size] != n {
		size--
		a.add(at+lenOf(size), sizeFor(n-sizes[size]))
	}
	a.add(at, size)
}

// layLong: n units become free, of which there may be more than a block has.
func (a *Arena) layLong(at, n int) {
	for ; n > mostUnits; n -= mostUnits {
		a.add(at, sizeFor(mostUnits))
		at += mostUnits * api.UnitLen
	}
	a.lay(at, n)
}
