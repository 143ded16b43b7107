package lzma

import "garbler/packet"

// startsLiteral: whether the next packet is a literal.
func (d *Decoder) startsLiteral() bool {
	return d.bits.Bit(&d.chances.Match[d.state][d.placeBits()]) == 0
}

// literal reads a literal behind its first bit, and tells its byte.
func (d *Decoder) literal() (byte, bool) {
	row := packet.Literal(d.literals, d.setting, d.place, d.window.At(0))
	var b byte
	if packet.Apart(d.state) {
		b = d.besideCopy(row)
	} else {
		b = byte(d.bits.Tree(row, 8))
	}
	d.state = packet.BehindLiteral(d.state)
	if d.bits.Bad() {
		return 0, false
	}
	d.Put(b)
	return b, true
}

// besideCopy: a literal behind a copy. The byte that would have made the copy longer is seldom the one that comes, so that each bit hangs on that byte's, as long as they are the same.
func (d *Decoder) besideCopy(row []uint16) byte {
	copied := int(d.window.At(int(d.reps[0])))
	m := 1
	for i := range 8 {
		x := copied >> (7 - i) & 1
		bit := d.bits.Bit(&row[(1+x)*256+m])
		m = 2*m + bit
		if bit != x {
			break
		}
	}
	for m < 256 {
		m = 2*m + d.bits.Bit(&row[m])
	}
	return byte(m - 256)
}

// copies reads a packet that is no literal behind its first bit: how many bytes are left to tell then, or whether it is bad or the end mark.
func (d *Decoder) copies() {
	n := 0
	if d.bits.Bit(&d.chances.Rep[d.state]) == 0 {
		n = d.match()
	} else if d.window.Count() > 0 {
		n = d.again()
	}
	switch {
	case d.bits.Bad(), d.ended:
	case d.window.Has(int(d.reps[0])): // then it is below Dict, too: the window is no longer than that
		d.left = n
	default:
		d.bad = true
	}
}

// match reads a new distance: how many bytes are told by it.
func (d *Decoder) match() int {
	l := d.length(&d.chances.Len)
	d.state = packet.BehindMatch(d.state)
	d.reps.Push(d.distance(l))
	d.ended = d.reps[0] == packet.EndMark
	return l + packet.LeastLength
}

// again reads which elder distance comes first: how many bytes are told by it.
func (d *Decoder) again() int {
	c := &d.chances
	if d.bits.Bit(&c.Rep0[d.state]) == 1 {
		d.reps.Raise(d.elder())
	} else if d.bits.Bit(&c.Long[d.state][d.placeBits()]) == 0 {
		d.state = packet.BehindSingle(d.state)
		return 1
	}
	l := d.length(&c.RepLen)
	d.state = packet.BehindAgain(d.state)
	return l + packet.LeastLength
}

// elder reads which distance it is, if it isn't the first one.
func (d *Decoder) elder() int {
	if d.bits.Bit(&d.chances.Rep1[d.state]) == 0 {
		return 1
	}
	return 2 + d.bits.Bit(&d.chances.Rep2[d.state])
}

// length reads a length, less by the bytes that the shortest one has.
func (d *Decoder) length(x *packet.Lengths) int {
	s := d.placeBits()
	if d.bits.Bit(&x.First) == 0 {
		return d.bits.Tree(x.Low[s][:], packet.ShortBits)
	}
	if d.bits.Bit(&x.Second) == 0 {
		return 1<<packet.ShortBits + d.bits.Tree(x.Mid[s][:], packet.ShortBits)
	}
	return 2<<packet.ShortBits + d.bits.Tree(x.High[:], packet.LongBits)
}

// distance reads a distance by a length.
func (d *Decoder) distance(l int) uint32 {
	c := &d.chances
	slot := d.bits.Tree(c.Slot(l), packet.SlotBits)
	if slot < packet.BareSlots {
		return uint32(slot)
	}
	n := slot/2 - 1
	base := uint32(2+slot%2) << n
	if slot < packet.TreeSlots {
		return base + uint32(d.bits.Reverse(c.Special[int(base)-slot:], n))
	}
	above := d.bits.Straight(n - packet.AlignBits)
	return base + above<<packet.AlignBits + uint32(d.bits.Reverse(c.Align[:], packet.AlignBits))
}

// placeBits: the place's bits.
func (d *Decoder) placeBits() int { return d.place & (1<<d.setting.Pb - 1) }
