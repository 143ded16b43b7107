package bcj2

import (
	"garbler/api"
	"garbler/rdec"
	"garbler/renc"
)

// coder lays bytes into four streams.
type coder struct {
	bits    *renc.Coder
	chances [chances]uint16
	out     api.Four // its Code comes when all bits are there
}

// Code: the four streams of bytes.
func Code(b []byte) api.Four {
	c := coder{bits: renc.New()}
	copy(c.chances[:], rdec.Fresh(chances))
	for i := 0; i < len(b); {
		i += c.step(b, i)
	}
	c.out.Code = c.bits.Finish()
	return c.out
}

// step lays down the byte at a place, and the target behind it, if that stands apart; it says how many bytes these are.
func (c *coder) step(b []byte, i int) int {
	c.out.Main = append(c.out.Main, b[i])
	number, is := chance(ahead(b, i), b[i])
	if !is || i == len(b)-1 {
		return 1
	}
	p, apart := placeBehind(b, i)
	if !apart {
		c.bits.Bit(&c.chances[number], 0)
		return 1
	}
	c.bits.Bit(&c.chances[number], 1)
	c.put(number, p)
	return 1 + placeLen
}

// put lays a place down, as the instruction of that probability is a call or a jump.
func (c *coder) put(number int, p uint32) {
	to := &c.out.Jump
	if isCall(number) {
		to = &c.out.Call
	}
	*to = append(*to, byte(p>>24), byte(p>>16), byte(p>>8), byte(p))
}

// ahead: the byte ahead of a place. Whether it is one of a target that stands apart makes no difference: that one's greatest byte is its last.
func ahead(b []byte, i int) byte {
	if i == 0 {
		return 0
	}
	return b[i-1]
}

// placeBehind: the place of the target behind an instruction, and whether it stands apart: only one within the bytes is likely to come again.
func placeBehind(b []byte, i int) (uint32, bool) {
	if len(b)-i <= placeLen {
		return 0, false
	}
	s := b[i+1 : i+1+placeLen]
	target := uint32(s[0]) | uint32(s[1])<<8 | uint32(s[2])<<16 | uint32(s[3])<<24
	p := target + uint32(i) + 1 + placeLen
	return p, uint64(p) < uint64(len(b))
}
