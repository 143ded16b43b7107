package packet

import (
	"garbler/api"
	"garbler/rdec"
)

const (
	ShortBits = 3 // of the lengths' lesser trees
	LongBits  = 8 // of their greater one
	SlotBits  = 6
	AlignBits = 4
	BareSlots = 4  // slots below it are distances
	TreeSlots = 14 // slots below it have trees of their own

	// OfChances: how many probabilities there are, but those of literals.
	OfChances = states*(2*places+4) + slotRows<<SlotBits + ofSpecial + 1<<AlignBits + 2*ofLengths

	states    = 12
	places    = 1 << 4 // the greatest number of place's bits, whatever the setting's
	slotRows  = 4
	ofSpecial = 1 + 1<<(TreeSlots/2) - TreeSlots
	ofLengths = 2 + 2*places<<ShortBits + 1<<LongBits
	ofLiteral = 3 * 256 // a tree, and one for each bit that the byte at the distance may tell
)

// Lengths are the probabilities by which a length is told.
type Lengths struct {
	First  uint16
	Second uint16
	Low    [places][1 << ShortBits]uint16
	Mid    [places][1 << ShortBits]uint16
	High   [1 << LongBits]uint16
}

// Chances are all probabilities but those of literals.
type Chances struct {
	Match   [states][places]uint16
	Long    [states][places]uint16
	Rep     [states]uint16
	Rep0    [states]uint16
	Rep1    [states]uint16
	Rep2    [states]uint16
	Special [ofSpecial]uint16
	Align   [1 << AlignBits]uint16
	Len     Lengths
	RepLen  Lengths
	slot    [slotRows][1 << SlotBits]uint16
}

// Slot: those of a distance's slot, by a length.
func (c *Chances) Slot(l int) []uint16 { return c.slot[min(l, slotRows-1)][:] }

// Renew: all of them begin.
func (c *Chances) Renew() {
	for state := range states {
		Renew(c.Match[state][:])
		Renew(c.Long[state][:])
	}
	Renew(c.Rep[:])
	Renew(c.Rep0[:])
	Renew(c.Rep1[:])
	Renew(c.Rep2[:])
	for row := range slotRows {
		Renew(c.slot[row][:])
	}
	Renew(c.Special[:])
	Renew(c.Align[:])
	c.Len.renew()
	c.RepLen.renew()
}

// renew: all of them begin.
func (x *Lengths) renew() {
	ends := rdec.Fresh(2)
	x.First, x.Second = ends[0], ends[1]
	for place := range places {
		Renew(x.Low[place][:])
		Renew(x.Mid[place][:])
	}
	Renew(x.High[:])
}

// Renew: a row of probabilities begins. It stays where it lies, as the meter gave memory for one row alone.
func Renew(row []uint16) {
	fresh := rdec.Fresh(1)[0]
	for i := range row {
		row[i] = fresh
	}
}

// OfLiterals: how many probabilities literals have.
func OfLiterals(p api.Lzma) int { return ofLiteral << (p.Lc + p.Lp) }

// Literal: of all literals' probabilities, those of one at a place, behind a byte.
func Literal(all []uint16, p api.Lzma, place int, last byte) []uint16 {
	place &= 1<<p.Lp - 1
	at := ofLiteral * (place<<p.Lc + int(last)>>(8-p.Lc))
	return all[at : at+ofLiteral]
}
