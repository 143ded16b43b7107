package lzma_test

import (
	"garbler/api"
	"garbler/rdec"
	"garbler/renc"
)

// asker asks questions: one that reads answers what is told, one that codes takes what is wanted, and answers that.
type asker interface {
	bit(p *uint16, want int) int
	tree(p []uint16, bits, want int) int
	reverse(p []uint16, bits, want int) int
	straight(bits int, want uint32) uint32
}

type reader struct{ d *rdec.Decoder }

func (a reader) bit(p *uint16, _ int) int            { return a.d.Bit(p) }
func (a reader) tree(p []uint16, bits, _ int) int    { return a.d.Tree(p, bits) }
func (a reader) reverse(p []uint16, bits, _ int) int { return a.d.Reverse(p, bits) }
func (a reader) straight(bits int, _ uint32) uint32  { return a.d.Straight(bits) }

type writer struct{ c *renc.Coder }

func (a writer) bit(p *uint16, want int) int {
	a.c.Bit(p, want)
	return want
}

func (a writer) tree(p []uint16, bits, want int) int {
	a.c.Tree(p, bits, uint32(want))
	return want
}

func (a writer) reverse(p []uint16, bits, want int) int {
	a.c.Reverse(p, bits, uint32(want))
	return want
}

func (a writer) straight(bits int, want uint32) uint32 {
	a.c.Straight(bits, want)
	return want
}

// key names a row of probabilities.
type key struct {
	name string
	a, b int
}

// model has what a decoder has, by the chapter's words: a list of all that came since the window was emptied, of which just as many as the window's size may be seen, and rows of probabilities by their names. It reads packets, or codes them.
type model struct {
	p     api.Lzma
	size  int
	all   []byte
	state int
	reps  [4]uint32
	rows  map[key][]uint16
}

func newModel(p api.Lzma, size int) *model {
	return &model{p: p, size: max(1, min(p.Dict, size)), rows: map[key][]uint16{}}
}

func (m *model) reset(p api.Lzma) {
	m.p.Lc, m.p.Lp, m.p.Pb = p.Lc, p.Lp, p.Pb
	m.state, m.reps, m.rows = 0, [4]uint32{}, map[key][]uint16{}
}

func (m *model) put(b byte) { m.all = append(m.all, b) }

func (m *model) has(d uint32) bool { return int(d) < m.size && int(d) < len(m.all) }

func (m *model) at(d uint32) byte {
	if !m.has(d) {
		return 0
	}
	return m.all[len(m.all)-1-int(d)]
}

func (m *model) row(n int, name string, a, b int) []uint16 {
	k := key{name, a, b}
	if m.rows[k] == nil {
		m.rows[k] = rdec.Fresh(n)
	}
	return m.rows[k]
}

// ask asks for one bit with a probability of its own.
func (m *model) ask(a asker, name string, at, beside int, want bool) bool {
	bit := 0
	if want {
		bit = 1
	}
	return a.bit(&m.row(1, name, at, beside)[0], bit) == 1
}

func (m *model) s() int { return len(m.all) % (1 << m.p.Pb) }

// packet: x, as it is read or coded, and whether it isn't bad. Nothing is put yet.
func (m *model) packet(a asker, x api.Packet) (api.Packet, bool) {
	if !m.ask(a, "Match", m.state, m.s(), x.Kind != api.Literal) {
		x = api.Packet{Kind: api.Literal, Byte: m.literal(a, x.Byte)}
		m.state = []int{0, 0, 0, 0, 1, 2, 3, 4, 5, 6, 4, 5}[m.state]
		return x, true
	}
	if m.ask(a, "Rep", m.state, 0, x.Kind != api.Match && x.Kind != api.End) {
		if len(m.all) == 0 {
			return api.Packet{}, false
		}
		x = m.again(a, x)
		return x, m.has(m.reps[0])
	}
	if x.Kind == api.End {
		x.Dist = 1<<32 - 1
	}
	x.Len = m.length(a, "Len", x.Len)
	m.state = []int{7, 7, 7, 7, 7, 7, 7, 10, 10, 10, 10, 10}[m.state]
	x.Dist = m.distance(a, min(x.Len-2, 3), x.Dist)
	m.reps = [4]uint32{x.Dist, m.reps[0], m.reps[1], m.reps[2]}
	if x.Dist == 1<<32-1 {
		return api.Packet{Kind: api.End}, true
	}
	x.Kind = api.Match
	return x, m.has(x.Dist)
}

func (m *model) literal(a asker, want byte) byte {
	row := m.row(768, "Literal", len(m.all)%(1<<m.p.Lp), int(m.at(0))/(1<<(8-m.p.Lc)))
	beside := m.state >= 7
	copied := m.at(m.reps[0])
	n := 1
	for i := 7; i >= 0; i-- {
		x, at := int(copied>>i&1), n
		if beside {
			at += (1 + x) * 256
		}
		bit := a.bit(&row[at], int(want>>i&1))
		n = 2*n + bit
		beside = beside && bit == x
	}
	return byte(n - 256)
}

func (m *model) again(a asker, x api.Packet) api.Packet {
	r := m.reps
	switch {
	case !m.ask(a, "Rep0", m.state, 0, x.Kind != api.Again0 && x.Kind != api.Single):
		if !m.ask(a, "Long", m.state, m.s(), x.Kind == api.Again0) {
			m.state = []int{9, 9, 9, 9, 9, 9, 9, 11, 11, 11, 11, 11}[m.state]
			return api.Packet{Kind: api.Single}
		}
		x.Kind = api.Again0
	case !m.ask(a, "Rep1", m.state, 0, x.Kind != api.Again1):
		m.reps, x.Kind = [4]uint32{r[1], r[0], r[2], r[3]}, api.Again1
	case !m.ask(a, "Rep2", m.state, 0, x.Kind != api.Again2):
		m.reps, x.Kind = [4]uint32{r[2], r[0], r[1], r[3]}, api.Again2
	default:
		m.reps, x.Kind = [4]uint32{r[3], r[0], r[1], r[2]}, api.Again3
	}
	n := m.length(a, "RepLen", x.Len)
	m.state = []int{8, 8, 8, 8, 8, 8, 8, 11, 11, 11, 11, 11}[m.state]
	return api.Packet{Kind: x.Kind, Len: n}
}

// length: of bytes, 2 at least (of a packet without one, 2).
func (m *model) length(a asker, name string, want int) int {
	l := max(want-2, 0)
	if !m.ask(a, name+"First", 0, 0, l >= 8) {
		return 2 + a.tree(m.row(8, name+"Low", m.s(), 0), 3, l)
	}
	if !m.ask(a, name+"Second", 0, 0, l >= 16) {
		return 2 + 8 + a.tree(m.row(8, name+"Mid", m.s(), 0), 3, l-8)
	}
	return 2 + 16 + a.tree(m.row(256, name+"High", 0, 0), 8, l-16)
}

func (m *model) distance(a asker, l int, want uint32) uint32 {
	slot := a.tree(m.row(64, "Slot", l, 0), 6, slotOf(want))
	if slot < 4 {
		return uint32(slot)
	}
	n := slot/2 - 1
	base := (2 + uint32(slot)%2) * (1 << n)
	if slot < 14 {
		return base + uint32(a.reverse(m.row(115, "Special", 0, 0)[int(base)-slot:], n, int(want-base)))
	}
	above := a.straight(n-4, (want-base)/16)
	return base + 16*above + uint32(a.reverse(m.row(16, "Align", 0, 0), 4, int((want-base)%16)))
}

// slotOf: the greatest slot whose base isn't above the distance.
func slotOf(d uint32) int {
	for slot := 63; slot >= 4; slot-- {
		if base := (2 + uint32(slot)%2) * (1 << (slot/2 - 1)); base <= d {
			return slot
		}
	}
	return int(d)
}

// tell puts what a packet tells, behind packet.
func (m *model) tell(x api.Packet) []byte {
	from := len(m.all)
	switch x.Kind {
	case api.Literal:
		m.put(x.Byte)
	case api.Single:
		m.put(m.at(m.reps[0]))
	default:
		for range x.Len {
			m.put(m.at(m.reps[0]))
		}
	}
	return m.all[from:]
}

// tape is a source that tells how often it was asked.
type tape struct {
	b     []byte
	asked int
}

func (s *tape) Next() (byte, bool) {
	s.asked++
	if s.asked > len(s.b) {
		return 0xa5, false
	}
	return s.b[s.asked-1], true
}

// twin is a model that is called as a decoder is.
type twin struct {
	model
	d      *rdec.Decoder // none ahead of begin
	tape   *tape
	now    api.Packet
	left   int
	ended  bool
	bad    bool
	closed bool
}

func newTwin(p api.Lzma, size int) *twin { return &twin{model: *newModel(p, size)} }

func (w *twin) begin(s *tape) {
	if !w.closed {
		w.d, w.tape, w.left, w.ended, w.bad = rdec.New(s), s, 0, false, false
	}
}

func (w *twin) silent() bool { return w.d == nil || w.bad || w.ended || w.closed }

// read: the next packet, whatever it is.
func (w *twin) read() {
	x, ok := w.packet(reader{w.d}, api.Packet{})
	w.bad = !ok || w.d.Bad()
	w.ended = !w.bad && x.Kind == api.End
	w.now, w.left = x, max(x.Len, 1)
	if w.bad || w.ended {
		w.left = 0
	}
}

func (w *twin) next() (byte, bool) {
	if w.silent() {
		return 0, false
	}
	if w.left == 0 {
		w.read()
	}
	if w.left > 0 && w.now.Kind != api.Literal && !w.has(w.reps[0]) {
		w.bad = true
	}
	if w.silent() {
		return 0, false
	}
	w.left--
	b := w.at(w.reps[0])
	if w.now.Kind == api.Literal {
		b = w.now.Byte
	}
	w.put(b)
	return b, true
}

func (w *twin) whole() bool {
	return w.d != nil && !w.bad && !w.closed && w.left == 0 && w.d.Done()
}

func (w *twin) allRead() bool { return w.d.Done() && w.tape.asked >= len(w.tape.b) }

func (w *twin) finish() bool {
	if w.d == nil || w.bad || w.closed || w.left > 0 {
		w.bad = true
		return false
	}
	ends := w.allRead()
	if !ends && !w.ended {
		w.read()
		ends = w.ended && w.allRead()
	}
	w.bad = true
	return ends
}

// modelUnpack: what b is as a stream of a size, and whether it is one.
func modelUnpack(b []byte, p api.Lzma, size int) ([]byte, bool) {
	w := newTwin(p, size)
	w.begin(&tape{b: b})
	for range size {
		if _, ok := w.next(); !ok {
			return nil, false
		}
	}
	return w.all, w.finish()
}
