package rdec_test

import (
	"math/big"
	"math/rand"

	"garbler/api"
	"garbler/rdec"
)

// The kinds of questions.
const (
	bit = iota
	tree
	reverse
	straight
	kinds
)

// tape is a source that tells how often it was asked. Behind its end it has no byte, but answers one that must not be taken.
type tape struct {
	b     []byte
	asked int
}

func (s *tape) Next() (byte, bool) {
	s.asked++
	if s.asked > len(s.b) {
		return 0xa5, false
	}
	return s.b[s.asked-1], true
}

// answer: what a decoder tells, if it is asked q.
func answer(d *rdec.Decoder, q api.Ask, p []uint16) uint32 {
	switch q.Kind {
	case bit:
		return uint32(d.Bit(&p[q.At]))
	case tree:
		return uint32(d.Tree(p[q.At:], q.Bits))
	case reverse:
		return uint32(d.Reverse(p[q.At:], q.Bits))
	}
	return d.Straight(q.Bits)
}

// model goes through the chapter's words one by one, on numbers that are too wide to wrap.
type model struct {
	span  uint64
	code  uint64
	b     []byte
	asked int
	bad   bool
}

func newModel(b []byte) *model {
	m := &model{b: b, span: 1<<32 - 1}
	if m.next() != 0 {
		m.bad = true
	}
	for range 4 {
		m.code = m.code*256 + m.next()
	}
	if m.code >= m.span {
		m.bad = true
	}
	return m
}

func (m *model) next() uint64 {
	if m.bad {
		return 0
	}
	m.asked++
	if m.asked > len(m.b) {
		m.bad = true
		return 0
	}
	return uint64(m.b[m.asked-1])
}

func (m *model) evenOut() {
	if m.span < 1<<24 {
		m.span = m.span * 256 % (1 << 32)
		m.code = (m.code*256 + m.next()) % (1 << 32)
	}
}

func (m *model) bit(p *uint16) uint32 {
	if m.bad {
		return 0
	}
	was := uint64(*p)
	bound := m.span / 2048 * was
	if m.code < bound {
		m.span = bound
		*p = uint16(was + (2048-was)/32)
		m.evenOut()
		return 0
	}
	m.code -= bound
	m.span -= bound
	*p = uint16(was - was/32)
	m.evenOut()
	return 1
}

func (m *model) straightBit() uint32 {
	if m.bad {
		return 0
	}
	m.span /= 2
	one := uint32(0)
	if m.code >= m.span {
		m.code -= m.span
		one = 1
	}
	m.evenOut()
	if m.code >= m.span {
		m.bad = true
	}
	return one
}

// answer: what is told, if the model is asked q; 0, as soon as it is bad.
func (m *model) answer(q api.Ask, p []uint16) uint32 {
	n, told := uint32(1), uint32(0)
	p = p[q.At:]
	switch q.Kind {
	case bit:
		told = m.bit(&p[0])
	case tree:
		for range q.Bits {
			n = 2*n + m.bit(&p[n])
		}
		told = n - 1<<q.Bits
	case reverse:
		for i := range q.Bits {
			one := m.bit(&p[n])
			n = 2*n + one
			told += one << i
		}
	case straight:
		for range q.Bits {
			told = told<<1 + m.straightBit()
		}
	}
	if m.bad {
		return 0
	}
	return told
}

// coder is a coder of questions, on a number that is as long as it must be: the least stream by which they are told.
type coder struct {
	low  *big.Int
	span uint64
	n    int // how many bytes low has
}

func newCoder() *coder { return &coder{low: new(big.Int), span: 1<<32 - 1, n: 5} }

// bytes: the stream.
func (c *coder) bytes() []byte { return c.low.FillBytes(make([]byte, c.n)) }

func (c *coder) evenOut() {
	for c.span < 1<<24 {
		c.span *= 256
		c.low.Lsh(c.low, 8)
		c.n++
	}
}

// part: 0 takes the range up to bound, 1 what is left of span behind it.
func (c *coder) part(one uint32, bound, span uint64) {
	if one == 0 {
		c.span = bound
	} else {
		c.low.Add(c.low, new(big.Int).SetUint64(bound))
		c.span = span - bound
	}
	c.evenOut()
}

func (c *coder) bit(p *uint16, one uint32) {
	bound := c.span / 2048 * uint64(*p)
	if one == 0 {
		*p += (2048 - *p) / 32
	} else {
		*p -= *p / 32
	}
	c.part(one, bound, c.span)
}

// code: the question comes behind those that are coded.
func (c *coder) code(q api.Ask, p []uint16) {
	if q.Kind == bit {
		c.bit(&p[q.At], q.Value)
	}
	n := uint32(1)
	for i := range q.Bits {
		one := q.Value >> (q.Bits - 1 - i) & 1
		if q.Kind == straight {
			c.part(one, c.span/2, c.span/2*2)
			continue
		}
		if q.Kind == reverse {
			one = q.Value >> i & 1
		}
		c.bit(&p[q.At+int(n)], one)
		n = 2*n + one
	}
}

// room is how many probabilities questions is about.
const room = 4 * 256

// questions: n of them, with values that fit.
func questions(r *rand.Rand, n int) []api.Ask {
	list := make([]api.Ask, n)
	for i := range list {
		q := api.Ask{Kind: r.Intn(kinds)}
		switch q.Kind {
		case bit:
			q.At, q.Value = r.Intn(room), uint32(r.Intn(2))
			if r.Intn(2) == 0 { // few probabilities, so that they move far
				q.At, q.Value = r.Intn(2), uint32(q.At&1)
			}
		case straight:
			q.Bits = r.Intn(33)
			q.Value = uint32(r.Uint64() & (1<<q.Bits - 1))
		default:
			q.Bits, q.At = 1+r.Intn(8), 256*r.Intn(room/256)
			q.Value = uint32(r.Intn(1 << q.Bits))
		}
		list[i] = q
	}
	return list
}

// coded: the stream by which questions are told.
func coded(list []api.Ask) []byte {
	c, p := newCoder(), rdec.Fresh(room)
	for _, q := range list {
		c.code(q, p)
	}
	return c.bytes()
}
