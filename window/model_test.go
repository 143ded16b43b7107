package window_test

import (
	"math"

	"garbler/window"
)

// The kinds of calls that change a window.
const (
	put = iota
	again
	empty
	shut
	kinds
)

// call is a call that changes a window; n is the byte that is put, or the distance of the one that is put again.
type call struct {
	kind int
	n    int
}

// of: what a window answers (0 of calls that answer nothing).
func (c call) of(w *window.Window) byte {
	switch c.kind {
	case put:
		w.Put(byte(c.n))
	case again:
		return w.Copy(c.n)
	case empty:
		w.Empty()
	case shut:
		w.Close()
	}
	return 0
}

// model is a list of all that was put since it was last emptied, from the first one on, of which just the last ones, as many as its size, may be seen.
type model struct {
	size   int
	all    []byte
	closed bool
}

func newModel(size int) *model {
	if size < 1 {
		size = 1
	}
	return &model{size: size}
}

func (m *model) has(d int) bool { return 0 <= d && d < m.size && d < len(m.all) }

func (m *model) at(d int) byte {
	if !m.has(d) {
		return 0
	}
	return m.all[len(m.all)-1-d]
}

func (m *model) count() int {
	if len(m.all) > m.size {
		return m.size
	}
	return len(m.all)
}

func (m *model) answer(c call) byte {
	switch c.kind {
	case put:
		if !m.closed {
			m.all = append(m.all, byte(c.n))
		}
	case again:
		if m.has(c.n) {
			b := m.at(c.n)
			m.all = append(m.all, b)
			return b
		}
	case empty:
		m.all = nil
	case shut:
		m.all, m.closed = nil, true
	}
	return 0
}

// far: distances at which nothing lies in any window of a test.
func far() []int {
	return []int{math.MinInt, math.MinInt + 1, math.MinInt32, -3, -2, -1, 1 << 20, math.MaxInt32, math.MaxInt32 + 1, math.MaxUint32, math.MaxUint32 + 1, math.MaxInt - 1, math.MaxInt}
}
