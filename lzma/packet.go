package lzma

import "math"

const (
	endMark     = math.MaxUint32 // the distance that is none
	leastLength = 2              // bytes of a packet whose length is told as 0
	apart       = 7              // states from it on: the packet ahead was no literal
)

// startsLiteral: whether the next packet is a literal.
func (d *Decoder) startsLiteral() bool {
	return d.bits.Bit(&d.chances.match[d.state][d.placeBits()]) == 0
}

// literal reads a literal behind its first bit, and tells its byte.
func (d *Decoder) literal() (byte, bool) {
	row := d.literalRow()
	var b byte
	if d.state < apart {
		b = byte(d.bits.Tree(row, 8))
	} else {
		b = d.besideCopy(row)
	}
	d.state = behindLiteral(d.state)
	if d.bits.Bad() {
		return 0, false
	}
	d.Put(b)
	return b, true
}

// literalRow: the probabilities of a literal that comes now.
func (d *Decoder) literalRow() []uint16 {
	place := d.place & (1<<d.setting.Lp - 1)
	last := int(d.window.At(0)) >> (8 - d.setting.Lc)
	at := ofLiteral * (place<<d.setting.Lc + last)
	return d.literals[at : at+ofLiteral]
}

// besideCopy: a literal behind a copy. The byte that would have made the copy longer is seldom the one that comes, so that each bit hangs on that byte's, as long as they are the same.
func (d *Decoder) besideCopy(row []uint16) byte {
	copied := int(d.window.At(int(d.reps[0])))
	m := 1
	for i := range 8 {
		x := copied >> (7 - i) & 1
		bit := d.bits.Bit(&row[(1+x)*256+m])
		m = 2*m + bit
		if bit != x {
			break
		}
	}
	for m < 256 {
		m = 2*m + d.bits.Bit(&row[m])
	}
	return byte(m - 256)
}

// copies reads a packet that is no literal behind its first bit: how many bytes are left to tell then, or whether it is bad or the end mark.
func (d *Decoder) copies() {
	n := 0
	if d.bits.Bit(&d.chances.rep[d.state]) == 0 {
		n = d.match()
	} else if d.window.Count() > 0 {
		n = d.again()
	}
	switch {
	case d.bits.Bad(), d.ended:
	case d.window.Has(int(d.reps[0])): // then it is below Dict, too: the window is no longer than that
		d.left = n
	default:
		d.bad = true
	}
}

// match reads a new distance: how many bytes are told by it.
func (d *Decoder) match() int {
	l := d.length(&d.chances.len)
	d.state = behindCopy(d.state, 7, 10)
	copy(d.reps[1:], d.reps[:])
	d.reps[0] = d.distance(l)
	d.ended = d.reps[0] == endMark
	return l + leastLength
}

// again reads which elder distance comes first: how many bytes are told by it.
func (d *Decoder) again() int {
	c := &d.chances
	if d.bits.Bit(&c.rep0[d.state]) == 1 {
		d.comesFirst(d.elder())
	} else if d.bits.Bit(&c.long[d.state][d.placeBits()]) == 0 {
		d.state = behindCopy(d.state, 9, 11)
		return 1
	}
	l := d.length(&c.repLen)
	d.state = behindCopy(d.state, 8, 11)
	return l + leastLength
}

// elder reads which distance it is, if it isn't the first one.
func (d *Decoder) elder() int {
	if d.bits.Bit(&d.chances.rep1[d.state]) == 0 {
		return 1
	}
	return 2 + d.bits.Bit(&d.chances.rep2[d.state])
}

// comesFirst: a distance comes ahead of those that were ahead of it.
func (d *Decoder) comesFirst(which int) {
	first := d.reps[which]
	copy(d.reps[1:which+1], d.reps[:which])
	d.reps[0] = first
}

// length reads a length, less by the bytes that the shortest one has.
func (d *Decoder) length(x *lengths) int {
	s := d.placeBits()
	if d.bits.Bit(&x.first) == 0 {
		return d.bits.Tree(x.low[s][:], shortBits)
	}
	if d.bits.Bit(&x.second) == 0 {
		return 1<<shortBits + d.bits.Tree(x.mid[s][:], shortBits)
	}
	return 2<<shortBits + d.bits.Tree(x.high[:], longBits)
}

// distance reads a distance by a length.
func (d *Decoder) distance(l int) uint32 {
	c := &d.chances
	slot := d.bits.Tree(c.slot[min(l, slotRows-1)][:], slotBits)
	if slot < bareSlots {
		return uint32(slot)
	}
	n := slot/2 - 1
	base := uint32(2+slot%2) << n
	if slot < treeSlots {
		return base + uint32(d.bits.Reverse(c.special[int(base)-slot:], n))
	}
	above := d.bits.Straight(n - alignBits)
	return base + above<<alignBits + uint32(d.bits.Reverse(c.align[:], alignBits))
}

// placeBits: the place's bits.
func (d *Decoder) placeBits() int { return d.place & (1<<d.setting.Pb - 1) }

func behindLiteral(state int) int {
	switch {
	case state < 4:
		return 0
	case state < 10:
		return state - 3
	}
	return state - 6
}

// behindCopy: the state behind a packet that copies, by whether a literal was ahead of it.
func behindCopy(state, literal, copied int) int {
	if state < apart {
		return literal
	}
	return copied
}
