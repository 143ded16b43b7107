package lzmac

import (
	"math/bits"

	"garbler/api"
	"garbler/packet"
)

// kind codes the bits that say which kind a packet is of.
func (c *Coder) kind(kind int) {
	h, s := &c.chances, c.placeBits()
	match, long := &h.Match[c.state][s], &h.Long[c.state][s]
	rep, rep0, rep1, rep2 := &h.Rep[c.state], &h.Rep0[c.state], &h.Rep1[c.state], &h.Rep2[c.state]
	switch kind {
	case api.Literal:
		c.bits.Bit(match, 0)
	case api.Match, api.End:
		c.ones(match)
		c.bits.Bit(rep, 0)
	case api.Single:
		c.ones(match, rep)
		c.bits.Bit(rep0, 0)
		c.bits.Bit(long, 0)
	case api.Again0:
		c.ones(match, rep)
		c.bits.Bit(rep0, 0)
		c.bits.Bit(long, 1)
	case api.Again1:
		c.ones(match, rep, rep0)
		c.bits.Bit(rep1, 0)
	case api.Again2:
		c.ones(match, rep, rep0, rep1)
		c.bits.Bit(rep2, 0)
	case api.Again3:
		c.ones(match, rep, rep0, rep1, rep2)
	}
}

// ones codes a bit 1 with each of some probabilities.
func (c *Coder) ones(chances ...*uint16) {
	for _, p := range chances {
		c.bits.Bit(p, 1)
	}
}

// literal codes a literal's byte.
func (c *Coder) literal(b byte) {
	row := packet.Literal(c.literals, c.setting, len(c.told), c.at(0))
	if packet.Apart(c.state) {
		c.besideCopy(row, b)
	} else {
		c.bits.Tree(row, 8, uint32(b))
	}
	c.state = packet.BehindLiteral(c.state)
	c.told = append(c.told, b)
}

// besideCopy codes a byte behind a copy: as long as its bits are those of the byte that would have made the copy longer, each hangs on that byte's.
func (c *Coder) besideCopy(row []uint16, b byte) {
	copied := int(c.at(c.reps[0]))
	m, same := 1, true
	for i := range 8 {
		bit, x := int(b)>>(7-i)&1, copied>>(7-i)&1
		at := m
		if same {
			at += (1 + x) * 256
		}
		c.bits.Bit(&row[at], bit)
		m = 2*m + bit
		same = same && bit == x
	}
}

// match codes a length and a new distance, which may be that of the end mark.
func (c *Coder) match(n int, dist uint32) {
	l := n - packet.LeastLength
	c.length(&c.chances.Len, l)
	c.state = packet.BehindMatch(c.state)
	c.distance(l, dist)
	c.reps.Push(dist)
}

// again codes a length; an elder distance comes first.
func (c *Coder) again(which, n int) {
	c.length(&c.chances.RepLen, n-packet.LeastLength)
	c.state = packet.BehindAgain(c.state)
	c.reps.Raise(which)
}

// length codes a length, less by the bytes that the shortest one has.
func (c *Coder) length(x *packet.Lengths, l int) {
	const short, long = 1 << packet.ShortBits, 2 << packet.ShortBits
	s := c.placeBits()
	switch {
	case l < short:
		c.bits.Bit(&x.First, 0)
		c.bits.Tree(x.Low[s][:], packet.ShortBits, uint32(l))
	case l < long:
		c.ones(&x.First)
		c.bits.Bit(&x.Second, 0)
		c.bits.Tree(x.Mid[s][:], packet.ShortBits, uint32(l-short))
	default:
		c.ones(&x.First, &x.Second)
		c.bits.Tree(x.High[:], packet.LongBits, uint32(l-long))
	}
}

// distance codes a distance by a length. Of what the slot leaves open just the least bits are taken each time, so that nothing needs to be taken away from it.
func (c *Coder) distance(l int, dist uint32) {
	h := &c.chances
	slot, n := slotOf(dist)
	c.bits.Tree(h.Slot(l), packet.SlotBits, uint32(slot))
	switch {
	case slot < packet.BareSlots:
	case slot < packet.TreeSlots:
		base := int(dist >> n << n)
		c.bits.Reverse(h.Special[base-slot:], n, dist)
	default:
		c.bits.Straight(n-packet.AlignBits, dist>>packet.AlignBits)
		c.bits.Reverse(h.Align[:], packet.AlignBits, dist)
	}
}

// slotOf: a distance's slot, and how many of its bits the slot leaves open. It tells the greatest two of the others.
func slotOf(dist uint32) (int, int) {
	n := bits.Len32(dist) - 2
	if n < 1 {
		return int(dist), 0
	}
	return 2*n + int(dist>>n), n
}

// placeBits: the place's bits.
func (c *Coder) placeBits() int { return len(c.told) & (1<<c.setting.Pb - 1) }
