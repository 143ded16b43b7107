package prc

import (
	"math"
	"math/bits"

	"garbler/api"
)

const (
	mostTotal = 1 << 20 // of a whole
	mostBits  = 16      // of a bit's probability
	lowBytes  = 4       // what low still gives when the coder finishes
)

// The kinds of shares.
const (
	partOfWhole = iota
	bitOfTwo
)

// Coder has a low, a range, and bytes.
type Coder struct {
	low   uint32
	span  uint32 // the range: that name is the language's
	given []byte // a carry may still come to the last ones
}

// NewCoder makes a coder. Low and range together never come to the first byte, which so stays 0.
func NewCoder() *Coder { return &Coder{span: math.MaxUint32, given: []byte{0}} }

// Put: a share. What is no share isn't put: it could leave no range.
func (c *Coder) Put(s api.Share) {
	switch s.Kind {
	case partOfWhole:
		if s.Total <= mostTotal && s.Start < s.Total && s.Size >= 1 && s.Size <= s.Total-s.Start {
			c.putPart(s.Start, s.Size, s.Total)
		}
	case bitOfTwo:
		if s.Total <= mostBits && s.Start <= 1 && s.Size >= 1 && s.Size < 1<<s.Total {
			c.putBit(s.Start, s.Size, s.Total)
		}
	}
}

// Finish: the coder's bytes; it begins anew.
func (c *Coder) Finish() []byte {
	for range lowBytes {
		c.give()
	}
	b := c.given
	*c = *NewCoder()
	return b
}

// Count: how many bytes there would be.
func (c *Coder) Count() int { return len(c.given) + lowBytes }

// putPart: a part of a whole.
func (c *Coder) putPart(start, size, total uint32) {
	c.span /= total
	c.raise(start * c.span)
	c.span *= size
	c.level()
}

// putBit: a bit, 0 having the probability size of 2 to that power.
func (c *Coder) putBit(bit, size, power uint32) {
	bound := boundOf(c.span, size, power)
	if bit == 0 {
		c.span = bound
	} else {
		c.raise(bound)
		c.span -= bound
	}
	c.level()
}

// raise: low is more. A carry goes through the bytes FF that were given last to the one ahead of them; there is one, as the first is 0.
func (c *Coder) raise(more uint32) {
	low, carry := bits.Add32(c.low, more, 0)
	c.low = low
	for i := len(c.given) - 1; carry == 1; i-- {
		c.given[i]++
		if c.given[i] != 0 {
			carry = 0
		}
	}
}

// level: a range that has become too small to be divided well is made greater.
func (c *Coder) level() {
	for c.span < leastSpan {
		c.span <<= 8
		c.give()
	}
}

// give: low's greatest byte is given.
func (c *Coder) give() {
	c.given = append(c.given, byte(c.low>>24))
	c.low <<= 8
}
