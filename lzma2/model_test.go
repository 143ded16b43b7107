package lzma2_test

import (
	"garbler/api"
	"garbler/lzma"
)

// tape is a source that tells how often it was asked.
type tape struct {
	b     []byte
	asked int
}

func (s *tape) Next() (byte, bool) {
	s.asked++
	if s.asked > len(s.b) {
		return 0xa5, false
	}
	return s.b[s.asked-1], true
}

// model reads a stream that is there as a whole, by the chapter's words.
type model struct {
	d    *lzma.Decoder
	rest []byte
	told []byte

	window, setting, state bool // whether they are there
	p                      api.Lzma
}

// modelOf: what chunks tell till one is bad, and whether the stream ends as said behind all that.
func modelOf(b []byte, dict, size int) ([]byte, bool) {
	d, _ := lzma.New(api.Lzma{Lc: 4, Dict: dict}, size, much())
	m := &model{d: d, rest: b, p: api.Lzma{Dict: dict}}
	for {
		c := m.cut(1)
		switch {
		case c == nil:
			return m.told, false
		case c[0] == 0:
			return m.told, len(m.rest) == 0
		case c[0] < 128 && !m.plain(c[0]), c[0] >= 128 && !m.packed(int(c[0])):
			return m.told, false
		}
	}
}

// cut: the next n bytes; none, if they aren't there.
func (m *model) cut(n int) []byte {
	if len(m.rest) < n {
		return nil
	}
	b := m.rest[:n]
	m.rest = m.rest[n:]
	return b
}

// plain: whether a plain chunk isn't bad.
func (m *model) plain(c byte) bool {
	head := m.cut(2)
	if c > 2 || head == nil || c == 2 && !m.window {
		return false
	}
	if c == 1 {
		m.d.Empty()
		m.window, m.setting, m.state = true, false, false
	}
	n := 256*int(head[0]) + int(head[1]) + 1
	for _, b := range m.rest[:min(n, len(m.rest))] {
		m.d.Put(b)
		m.told = append(m.told, b)
	}
	return m.cut(n) != nil
}

// packed: whether a packed chunk isn't bad.
func (m *model) packed(c int) bool {
	how := c/32 - 4
	if !m.window && how != 3 || !m.setting && how < 2 || !m.state && how == 0 {
		return false
	}
	head := m.cut(4)
	if head == nil {
		return false
	}
	if how >= 2 && !m.reset(m.cut(1)) {
		return false
	}
	if how == 3 {
		m.d.Empty()
	}
	if how >= 1 {
		m.d.Reset(m.p)
	}
	m.window, m.setting, m.state = true, true, true
	n := 65536*(c%32) + 256*int(head[0]) + int(head[1]) + 1
	room := 256*int(head[2]) + int(head[3]) + 1
	s := &tape{b: m.rest[:min(room, len(m.rest))]}
	m.d.Begin(s)
	for range n {
		b, ok := m.d.Next()
		if !ok {
			return false
		}
		m.told = append(m.told, b)
	}
	return m.cut(room) != nil && s.asked == room && m.d.Whole()
}

// reset: whether there is a setting that may be here; it is the one that there is then.
func (m *model) reset(b []byte) bool {
	if b == nil || b[0] >= 225 {
		return false
	}
	m.p.Lc, m.p.Lp, m.p.Pb = int(b[0])%9, int(b[0])/9%5, int(b[0])/45
	return m.p.Lc+m.p.Lp <= 4
}

// twin is called as a decoder is, of streams that are there as a whole.
type twin struct {
	dict   int
	size   int
	told   []byte // what is yet to tell
	ends   bool   // whether the stream ends as said behind it
	closed bool
}

func (w *twin) begin(b []byte) {
	if !w.closed {
		w.told, w.ends = modelOf(b, w.dict, w.size)
	}
}

func (w *twin) next() (byte, bool) {
	if len(w.told) == 0 {
		return 0, false
	}
	b := w.told[0]
	w.told = w.told[1:]
	return b, true
}

func (w *twin) finish() bool {
	ends := w.ends && len(w.told) == 0
	w.told, w.ends = nil, false
	return ends
}

func (w *twin) close() { w.told, w.ends, w.closed = nil, false, true }
