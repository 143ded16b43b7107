package lzma

import "garbler/rdec"

const (
	states    = 12
	places    = 1 << mostPb // the greatest number of place's bits, whatever the setting's
	ofLiteral = 3 * 256     // a tree, and one for each bit that the byte at the distance may tell

	shortBits = 3 // of the lengths' lesser trees
	longBits  = 8 // of their greater one
	slotBits  = 6
	alignBits = 4
	slotRows  = 4
	bareSlots = 4  // slots below it are distances
	treeSlots = 14 // slots below it have trees of their own
	ofSpecial = 1 + 1<<(treeSlots/2) - treeSlots

	ofLengths = 2 + 2*places<<shortBits + 1<<longBits
	ofPackets = states*(2*places+4) + slotRows<<slotBits + ofSpecial + 1<<alignBits + 2*ofLengths
)

// lengths are the probabilities by which a length is told.
type lengths struct {
	first  uint16
	second uint16
	low    [places][1 << shortBits]uint16
	mid    [places][1 << shortBits]uint16
	high   [1 << longBits]uint16
}

// chances are all probabilities but those of literals.
type chances struct {
	match   [states][places]uint16
	long    [states][places]uint16
	rep     [states]uint16
	rep0    [states]uint16
	rep1    [states]uint16
	rep2    [states]uint16
	slot    [slotRows][1 << slotBits]uint16
	special [ofSpecial]uint16
	align   [1 << alignBits]uint16
	len     lengths
	repLen  lengths
}

// renew: all of them begin.
func (c *chances) renew() {
	for i := range c.match {
		renew(c.match[i][:])
		renew(c.long[i][:])
	}
	renew(c.rep[:])
	renew(c.rep0[:])
	renew(c.rep1[:])
	renew(c.rep2[:])
	for i := range c.slot {
		renew(c.slot[i][:])
	}
	renew(c.special[:])
	renew(c.align[:])
	c.len.renew()
	c.repLen.renew()
}

// renew: all of them begin.
func (x *lengths) renew() {
	ends := rdec.Fresh(2)
	x.first, x.second = ends[0], ends[1]
	for i := range x.low {
		renew(x.low[i][:])
		renew(x.mid[i][:])
	}
	renew(x.high[:])
}

// renew: a row of probabilities begins. It stays where it lies, as the meter gave memory for one row alone.
func renew(row []uint16) {
	fresh := rdec.Fresh(1)[0]
	for i := range row {
		row[i] = fresh
	}
}
