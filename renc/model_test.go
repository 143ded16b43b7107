package renc_test

import (
	"math/big"
	"math/rand"

	"garbler/api"
	"garbler/rdec"
	"garbler/renc"
)

// The kinds of questions.
const (
	bit = iota
	tree
	reverse
	straight
	kinds
)

// room is how many probabilities the questions are about.
const room = 4 * 256

// model has a low that is as long as all that was coded: a carry is nothing special there, and no byte waits.
type model struct {
	low    *big.Int
	span   uint64
	n      int         // how many bytes low has
	turned map[int]int // how often a carry went through so many bytes FF
}

func newModel() *model {
	return &model{low: new(big.Int), span: 1<<32 - 1, n: 5, turned: map[int]int{}}
}

// bytes: what the coder is to give.
func (m *model) bytes() []byte { return m.low.FillBytes(make([]byte, m.n)) }

// part: 0 takes the range up to bound, 1 what is left of span behind it.
func (m *model) part(one uint32, bound, span uint64) {
	if one == 0 {
		m.span = bound
	} else {
		m.add(bound)
		m.span = span - bound
	}
	for m.span < 1<<24 {
		m.span *= 256
		m.low.Lsh(m.low, 8)
		m.n++
	}
}

// add keeps account of the carries to bytes that are beyond the 32 bits that a coder's low has.
func (m *model) add(bound uint64) {
	ahead := new(big.Int).Rsh(m.low, 32)
	m.low.Add(m.low, new(big.Int).SetUint64(bound))
	behind := new(big.Int).Rsh(m.low, 32)
	if behind.Cmp(ahead) != 0 {
		m.turned[int(behind.TrailingZeroBits()/8)]++
	}
}

func (m *model) bit(p *uint16, one uint32) {
	was := uint64(*p)
	*p = uint16(was + (2048-was)/32)
	if one == 1 {
		*p = uint16(was - was/32)
	}
	m.part(one, m.span/2048*was, m.span)
}

// code: the question comes behind those that are coded.
func (m *model) code(q api.Ask, p []uint16) {
	if q.Kind == bit {
		m.bit(&p[q.At], q.Value)
	}
	node := uint32(1)
	for i := range q.Bits {
		one := q.Value >> (q.Bits - 1 - i) & 1
		if q.Kind == straight {
			m.part(one, m.span/2, m.span/2*2)
			continue
		}
		if q.Kind == reverse {
			one = q.Value >> i & 1
		}
		m.bit(&p[q.At+int(node)], one)
		node = 2*node + one
	}
}

// code: the question comes behind those that c coded.
func code(c *renc.Coder, q api.Ask, p []uint16) {
	switch q.Kind {
	case bit:
		c.Bit(&p[q.At], int(q.Value))
	case tree:
		c.Tree(p[q.At:], q.Bits, q.Value)
	case reverse:
		c.Reverse(p[q.At:], q.Bits, q.Value)
	case straight:
		c.Straight(q.Bits, q.Value)
	}
}

// answer: what a decoder tells, if it is asked q.
func answer(d *rdec.Decoder, q api.Ask, p []uint16) uint32 {
	switch q.Kind {
	case bit:
		return uint32(d.Bit(&p[q.At]))
	case tree:
		return uint32(d.Tree(p[q.At:], q.Bits))
	case reverse:
		return uint32(d.Reverse(p[q.At:], q.Bits))
	}
	return d.Straight(q.Bits)
}

// question: one of any kind, with a value that fits.
func question(r *rand.Rand) api.Ask {
	q := api.Ask{Kind: r.Intn(kinds)}
	switch q.Kind {
	case bit:
		q.At, q.Value = r.Intn(room), uint32(r.Intn(2))
		if r.Intn(2) == 0 { // few probabilities, so that they move far
			q.At, q.Value = r.Intn(2), uint32(q.At&1)
		}
	case straight:
		q.Bits = r.Intn(33)
		q.Value = uint32(r.Uint64() & (1<<q.Bits - 1))
	default:
		q.Bits, q.At = 1+r.Intn(8), 256*r.Intn(room/256)
		q.Value = uint32(r.Intn(1 << q.Bits))
	}
	return q
}

// questions: n of them.
func questions(r *rand.Rand, n int) []api.Ask {
	list := make([]api.Ask, n)
	for i := range list {
		list[i] = question(r)
	}
	return list
}

// tape is a source that tells how often it was asked.
type tape struct {
	b     []byte
	asked int
}

func (s *tape) Next() (byte, bool) {
	s.asked++
	if s.asked > len(s.b) {
		return 0, false
	}
	return s.b[s.asked-1], true
}

// along: questions that a stream answers, up to its end. So a coder's low comes from below to what the stream is.
func along(r *rand.Rand, stream []byte) []api.Ask {
	d, p := rdec.New(&tape{b: stream}), rdec.Fresh(room)
	list := []api.Ask{}
	for {
		q := question(r)
		if q.Kind == straight {
			q.Bits %= 9 // the stream shouldn't end at once
		}
		q.Value = answer(d, q, p)
		if d.Bad() {
			return list
		}
		list = append(list, q)
	}
}

// narrow: a stream with many bytes in a row that a carry makes 00 of FF, or that stay FF.
func narrow(r *rand.Rand) []byte {
	b := []byte{0, byte(1 + r.Intn(255))}
	for range 1 + r.Intn(4) {
		fill := byte(-r.Intn(2))
		for range r.Intn(24) {
			b = append(b, fill)
		}
		b = append(b, byte(r.Intn(256)))
	}
	for range 8 {
		b = append(b, byte(r.Intn(256)))
	}
	return b
}
