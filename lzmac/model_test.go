package lzmac_test

import (
	"math"

	"garbler/api"
	"garbler/renc"
)

// key names a probability.
type key struct {
	name       string
	a, b, node int
}

// model has what a coder has, by the words of chapters 8 and 9: a list of all that was told, and probabilities by their names, each coded alone.
type model struct {
	p     api.Lzma
	all   []byte
	state int
	reps  [4]uint32
	ended bool
	odds  map[key]*uint16
	c     *renc.Coder
}

func newModel(p api.Lzma) *model {
	return &model{p: p, odds: map[key]*uint16{}, c: renc.New()}
}

func (m *model) reset(p api.Lzma) {
	m.p.Lc, m.p.Lp, m.p.Pb = p.Lc, p.Lp, p.Pb
	m.state, m.reps, m.odds = 0, [4]uint32{}, map[key]*uint16{}
}

func (m *model) finish() []byte {
	m.ended = false
	return m.c.Finish()
}

func (m *model) has(d uint32) bool { return int(d) < m.p.Dict && int(d) < len(m.all) }

func (m *model) at(d uint32) byte {
	if !m.has(d) {
		return 0
	}
	return m.all[len(m.all)-1-int(d)]
}

func (m *model) fits(x api.Packet) bool {
	length := 2 <= x.Len && x.Len <= 273
	switch {
	case m.ended:
		return false
	case x.Kind == api.Match:
		return length && m.has(x.Dist)
	case x.Kind >= api.Again0 && x.Kind <= api.Again3:
		return length && m.has(m.reps[x.Kind-api.Again0])
	case x.Kind == api.Single:
		return m.has(m.reps[0])
	}
	return x.Kind == api.Literal || x.Kind == api.End
}

func (m *model) bit(k key, v int) {
	if m.odds[k] == nil {
		fresh := uint16(1024)
		m.odds[k] = &fresh
	}
	m.c.Bit(m.odds[k], v)
}

// when codes 1 if something holds.
func (m *model) when(name string, a, b int, so bool) {
	v := 0
	if so {
		v = 1
	}
	m.bit(key{name, a, b, 0}, v)
}

// tree codes the least bits of v, the greatest first.
func (m *model) tree(name string, a, bits, v int) {
	node := 1
	for i := bits - 1; i >= 0; i-- {
		m.bit(key{name, a, 0, node}, v>>i&1)
		node = 2*node + v>>i&1
	}
}

// reverse codes the least bits of v, the least first.
func (m *model) reverse(name string, from, bits, v int) {
	node := 1
	for i := range bits {
		m.bit(key{name, 0, 0, from + node}, v>>i&1)
		node = 2*node + v>>i&1
	}
}

func (m *model) s() int { return len(m.all) % (1 << m.p.Pb) }

// code codes a packet, if it fits.
func (m *model) code(x api.Packet) bool {
	fits := m.fits(x)
	if fits {
		m.tell(m.bits(x), x)
	}
	return fits
}

// bits codes a packet whether it fits or not (but its length must be one): how many bytes it tells.
func (m *model) bits(x api.Packet) int {
	copied := m.state >= 7
	next := func(literal, copy int) {
		if m.state = literal; copied {
			m.state = copy
		}
	}
	m.when("Match", m.state, m.s(), x.Kind != api.Literal)
	if x.Kind == api.Literal {
		m.literal(x.Byte)
		m.state = []int{0, 0, 0, 0, 1, 2, 3, 4, 5, 6, 4, 5}[m.state]
		return 1
	}
	elder := x.Kind != api.Match && x.Kind != api.End
	m.when("Rep", m.state, 0, elder)
	if !elder {
		if x.Kind == api.End {
			x.Dist, x.Len = math.MaxUint32, 2
		}
		m.length("Len", x.Len)
		next(7, 10)
		m.distance(min(x.Len-2, 3), int(x.Dist))
		m.reps = [4]uint32{x.Dist, m.reps[0], m.reps[1], m.reps[2]}
		m.ended = x.Kind == api.End
		return x.Len
	}
	if m.elder(x.Kind); x.Kind == api.Single {
		next(9, 11)
		return 1
	}
	m.length("RepLen", x.Len)
	next(8, 11)
	return x.Len
}

// elder codes which of the elder distances comes first, and has it there.
func (m *model) elder(kind int) {
	r, state := m.reps, m.state
	first := kind == api.Again0 || kind == api.Single
	m.when("Rep0", state, 0, !first)
	if first {
		m.when("Long", state, m.s(), kind == api.Again0)
		return
	}
	m.when("Rep1", state, 0, kind != api.Again1)
	if m.reps = [4]uint32{r[1], r[0], r[2], r[3]}; kind == api.Again1 {
		return
	}
	m.when("Rep2", state, 0, kind != api.Again2)
	if m.reps = [4]uint32{r[2], r[0], r[1], r[3]}; kind == api.Again3 {
		m.reps = [4]uint32{r[3], r[0], r[1], r[2]}
	}
}

func (m *model) literal(b byte) {
	place, last := len(m.all)%(1<<m.p.Lp), int(m.at(0))/(1<<(8-m.p.Lc))
	copied := m.at(m.reps[0])
	node, beside := 1, m.state >= 7
	for i := 7; i >= 0; i-- {
		bit, x := int(b>>i&1), int(copied>>i&1)
		at := node
		if beside {
			at += (1 + x) * 256
		}
		m.bit(key{"Literal", place, last, at}, bit)
		node = 2*node + bit
		beside = beside && bit == x
	}
}

func (m *model) length(name string, n int) {
	l := n - 2
	m.when(name+"First", 0, 0, l >= 8)
	if l < 8 {
		m.tree(name+"Low", m.s(), 3, l)
		return
	}
	m.when(name+"Second", 0, 0, l >= 16)
	if l < 16 {
		m.tree(name+"Mid", m.s(), 3, l-8)
		return
	}
	m.tree(name+"High", 0, 8, l-16)
}

func (m *model) distance(l, d int) {
	slot, n, base := slotOf(d)
	m.tree("Slot", l, 6, slot)
	if slot < 4 {
		return
	}
	if slot < 14 {
		m.reverse("Special", base-slot, n, d-base)
		return
	}
	m.c.Straight(n-4, uint32((d-base)/16))
	m.reverse("Align", 0, 4, (d-base)%16)
}

// slotOf: the greatest slot whose base isn't above the distance, and its n and base.
func slotOf(d int) (int, int, int) {
	for slot := 63; slot >= 4; slot-- {
		n := slot/2 - 1
		if base := (2 + slot%2) * (1 << n); base <= d {
			return slot, n, base
		}
	}
	return d, 0, d
}

// tell puts the n bytes that a packet tells, behind its bits.
func (m *model) tell(n int, x api.Packet) {
	for range n {
		switch {
		case x.Kind == api.Literal:
			m.all = append(m.all, x.Byte)
		case x.Kind != api.End:
			m.all = append(m.all, m.at(m.reps[0]))
		}
	}
}
