package arena_test

import (
	"garbler/api"
	"garbler/arena"
)

const unit = api.UnitLen

// modelSizes: the sizes of blocks.
var modelSizes = sizesByTheRule()

func sizesByTheRule() []int {
	var sizes []int
	for _, r := range [][3]int{{1, 4, 1}, {6, 12, 2}, {15, 24, 3}, {28, 128, 4}} {
		for n := r[0]; n <= r[1]; n += r[2] {
			sizes = append(sizes, n)
		}
	}
	return sizes
}

// modelSize: the size for n units.
func modelSize(n int) int {
	for _, size := range modelSizes {
		if size >= n {
			return size
		}
	}
	return 0
}

// model is an arena by the chapter's words: rows of free blocks are kept by their sizes, from the front on; bytes by their places, with some beyond, which stay 0.
type model struct {
	size                   int
	text, start, low, high int
	glue                   int
	rows                   map[int][]int
	bytes                  []byte
}

func newModel(size int) *model {
	m := &model{size: size, bytes: make([]byte, size+3)}
	m.restart()
	return m
}

func (m *model) restart() {
	u := m.size / 96 * 84
	m.text, m.glue, m.rows = 1, 0, map[int][]int{}
	m.low, m.start, m.high = m.size+1-u, m.size+1-u, m.size+1
}

func (m *model) front(size int) int {
	r := m.rows[size]
	if len(r) == 0 {
		return 0
	}
	m.rows[size] = r[1:]
	return r[0]
}

func (m *model) comes(at, size int) { m.rows[size] = append([]int{at}, m.rows[size]...) }

// rest: n units are free that aren't more than the greatest size.
func (m *model) rest(at, n int) {
	if modelSize(n) == n {
		m.comes(at, n)
		return
	}
	k := 0
	for _, size := range modelSizes {
		if size < n {
			k = size
		}
	}
	m.comes(at+k*unit, n-k)
	m.comes(at, k)
}

type modelBlock struct {
	at, n int
	in    bool
}

func (m *model) glued() {
	m.glue = 255
	var all []*modelBlock
	for _, size := range modelSizes {
		for _, at := range m.rows[size] {
			all = append(all, &modelBlock{at: at, n: size})
		}
	}
	m.rows = map[int][]int{}
	for i := len(all) - 1; i >= 0; i-- {
		for b := all[i]; !b.in; {
			other := behind(all, b)
			if other == nil || b.n+other.n >= 65536 {
				break
			}
			b.n += other.n
			other.in = true
		}
	}
	for i := len(all) - 1; i >= 0; i-- {
		b := all[i]
		if b.in {
			continue
		}
		for ; b.n > 128; b.n -= 128 {
			m.comes(b.at, 128)
			b.at += 128 * unit
		}
		m.rest(b.at, b.n)
	}
}

// behind: the block that begins where another one ends, and wasn't taken in.
func behind(all []*modelBlock, b *modelBlock) *modelBlock {
	for _, other := range all {
		if !other.in && other.at == b.at+b.n*unit {
			return other
		}
	}
	return nil
}

func (m *model) rarely(size int) int {
	if m.glue == 0 {
		m.glued()
		if at := m.front(size); at != 0 {
			return at
		}
	}
	for _, greater := range modelSizes {
		if greater <= size {
			continue
		}
		if at := m.front(greater); at != 0 {
			m.rest(at+size*unit, greater-size)
			return at
		}
	}
	m.glue--
	if m.start-m.text > size*unit {
		m.start -= size * unit
		return m.start
	}
	return 0
}

func (m *model) units(n int) int {
	if n < 1 || n > 128 {
		return 0
	}
	size := modelSize(n)
	if at := m.front(size); at != 0 {
		return at
	}
	if at := m.low; m.high-at >= size*unit {
		m.low += size * unit
		return at
	}
	return m.rarely(size)
}

func (m *model) one() int {
	if m.high != m.low {
		m.high -= unit
		return m.high
	}
	if at := m.front(1); at != 0 {
		return at
	}
	return m.rarely(1)
}

func (m *model) free(at, n int) { m.comes(at, modelSize(n)) }

func (m *model) shrink(at, old, n int) int {
	was, size := modelSize(old), modelSize(n)
	if was == size {
		return at
	}
	if to := m.front(size); to != 0 {
		m.move(to, at, n)
		m.comes(at, was)
		return to
	}
	m.rest(at+size*unit, was-size)
	return at
}

func (m *model) push(b byte) bool {
	m.set(m.text, b)
	m.text++
	return m.text < m.start
}

func (m *model) set(at int, b byte) {
	if 1 <= at && at <= m.size {
		m.bytes[at] = b
	}
}

func (m *model) move(to, from, n int) {
	var row []byte
	for i := range n * unit {
		row = append(row, m.bytes[from+i])
	}
	for i, b := range row {
		m.set(to+i, b)
	}
}

// The kinds of calls.
const (
	units = iota
	one
	free
	shrink
	push
	pop
	restart
)

// call is a call of an arena; what n, at and old mean hangs on its kind.
type call struct {
	kind    int
	n       int
	at, old int
}

// of: what an arena answers (0 of calls that answer nothing; of a push 1, if there is room).
func (c call) of(a *arena.Arena) int {
	switch c.kind {
	case units:
		return a.Units(c.n)
	case one:
		return a.One()
	case free:
		a.Free(c.at, c.n)
	case shrink:
		return a.Shrink(c.at, c.old, c.n)
	case push:
		return number(a.Push(byte(c.n)))
	case pop:
		a.Pop()
	case restart:
		a.Restart()
	}
	return 0
}

// answer: what the model answers.
func (m *model) answer(c call) int {
	switch c.kind {
	case units:
		return m.units(c.n)
	case one:
		return m.one()
	case free:
		m.free(c.at, c.n)
	case shrink:
		return m.shrink(c.at, c.old, c.n)
	case push:
		return number(m.push(byte(c.n)))
	case pop:
		m.text--
	case restart:
		m.restart()
	}
	return 0
}

func number(is bool) int {
	if is {
		return 1
	}
	return 0
}
