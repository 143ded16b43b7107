package lzma2

import (
	"garbler/api"
	"garbler/chunk"
	"garbler/lzma"
	"garbler/rdec"
)

const countBits = 16 // of a packed chunk's count of bytes, but for those above them in its first byte

// flags say what is needed, or brought, anew.
type flags byte

const (
	newWindow flags = 1 << iota // one that is emptied
	newSetting
	newState // and distances and probabilities
)

// brings: what a packed chunk brings, by its How.
var brings = [4]flags{0, newState, newState | newSetting, newState | newSetting | newWindow}

// packed is a source of a chunk's packed bytes alone.
type packed struct {
	source rdec.Source
	left   int
}

// Next: the next byte, if it is one of them.
func (p *packed) Next() (byte, bool) {
	if p.left == 0 {
		return 0, false
	}
	p.left--
	return p.source.Next()
}

// chunk reads what stands ahead of a chunk's bytes: how many there are then, or that none come.
func (d *Decoder) chunk() {
	c := d.read()
	switch {
	case d.bad():
	case c == chunk.End:
		d.ended = true
	case c == chunk.PlainAnew:
		d.packets.Empty()
		d.needs = newSetting | newState
		d.beginPlain()
	case c == chunk.Plain && d.needs&newWindow == 0:
		d.beginPlain()
	case c >= chunk.PackedFrom:
		d.beginPacked(c)
	default:
		d.fail()
	}
}

// beginPlain reads the rest of a plain chunk's head.
func (d *Decoder) beginPlain() {
	n := d.count()
	if !d.bad() {
		d.left, d.packed = n, nil
	}
}

// beginPacked reads the rest of a packed chunk's head.
func (d *Decoder) beginPacked(c byte) {
	brought := brings[(c-chunk.PackedFrom)>>chunk.AboveBits]
	if d.needs&^brought != 0 {
		d.fail()
		return
	}
	above := int(c) & (1<<chunk.AboveBits - 1)
	n := above<<countBits + d.count()
	room := d.count()
	if brought&newSetting != 0 {
		d.setting = d.readSetting()
	}
	if d.bad() {
		return
	}
	d.renew(brought)
	d.left, d.packed = n, &packed{d.source, room}
	d.packets.Begin(d.packed)
}

// renew: what a chunk brings is anew, and nothing is needed any more.
func (d *Decoder) renew(brought flags) {
	if brought&newWindow != 0 {
		d.packets.Empty()
	}
	if brought&newState != 0 {
		d.packets.Reset(d.setting)
	}
	d.needs = 0
}

// count reads a number of bytes: one at least.
func (d *Decoder) count() int {
	high := int(d.read())
	return high<<8 + int(d.read()) + 1
}

// readSetting reads a setting. It is bad, if it may not be here.
func (d *Decoder) readSetting() api.Lzma {
	p, code := lzma.Parse([]byte{d.read(), 0, 0, 0, 0}) // it says nothing of the dictionary
	if code != api.OK || p.Lc+p.Lp > chunk.MostLcLp {
		d.fail()
		return api.Lzma{}
	}
	return p
}

// plainByte tells the chunk's next byte as it is.
func (d *Decoder) plainByte() (byte, bool) {
	b := d.read()
	if d.bad() {
		return 0, false
	}
	d.packets.Put(b)
	d.left--
	return b, true
}

// packedByte tells the chunk's next byte as packets have it. The last one is told, however the packed bytes end behind it.
func (d *Decoder) packedByte() (byte, bool) {
	b, ok := d.packets.Next()
	if !ok {
		d.fail()
		return 0, false
	}
	d.left--
	if d.left == 0 && !d.wholly() {
		d.fail()
	}
	return b, true
}

// wholly: whether all packed bytes were read, and the packets end there.
func (d *Decoder) wholly() bool { return d.packed.left == 0 && d.packets.Whole() }
