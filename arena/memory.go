package arena

const (
	pageBits = 16
	pageLen  = 1 << pageBits

	bytesOfInt = 8
)

// memory is bytes at places from 1 to a size. A page of them is made when a byte comes to it: a size may be declared that is far greater than what comes.
type memory struct {
	size  int
	pages [][]byte
}

func newMemory(size int) memory {
	return memory{size: size, pages: make([][]byte, size/pageLen+1)}
}

// has: whether there are n bytes, 1 at least, from a place on.
func (m *memory) has(at, n int) bool {
	return firstPlace <= at && 1 <= n && n <= m.size && at-firstPlace <= m.size-n
}

// get: the byte at a place; 0, where there is none.
func (m *memory) get(at int) byte {
	if !m.has(at, 1) {
		return 0
	}
	page := m.pages[at>>pageBits]
	if page == nil {
		return 0
	}
	return page[at%pageLen]
}

// set: another byte at a place, if there is one.
func (m *memory) set(at int, b byte) {
	if !m.has(at, 1) {
		return
	}
	page := &m.pages[at>>pageBits]
	if *page == nil {
		begin := at - at%pageLen
		*page = make([]byte, min(pageLen, m.size+firstPlace-begin))
	}
	(*page)[at%pageLen] = b
}

// num: the number of so many bytes at a place, the least first, as far as it fits; 0, if not all of them are there.
func (m *memory) num(at, size int) int {
	if !m.has(at, size) {
		return 0
	}
	v := 0
	for i := min(size, bytesOfInt) - 1; i >= 0; i-- {
		v = v<<8 | int(m.get(at+i))
	}
	return v
}

// setNum: another number at a place, if all of its bytes are there.
func (m *memory) setNum(at, size, v int) {
	if !m.has(at, size) {
		return
	}
	for i := range size {
		m.set(at+i, byte(v))
		v >>= 8
	}
}

// move: n bytes are copied, if all of them are there. They may overlap: none is written over that is still to be read.
func (m *memory) move(to, from, n int) {
	if !m.has(to, n) || !m.has(from, n) {
		return
	}
	if to < from {
		for i := range n {
			m.set(to+i, m.get(from+i))
		}
		return
	}
	for i := n - 1; i >= 0; i-- {
		m.set(to+i, m.get(from+i))
	}
}
