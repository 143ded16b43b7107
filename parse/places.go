package parse

import "math/bits"

// mostLists: there are no more two bytes than these.
const mostLists = 1 << 16

// places are lists of the places at which the same two bytes stand. Few bytes should cost little: there are about as many lists as bytes then, and a list may hold other two bytes, too. As there is one place for each byte, it has 32 bits; 0 is none.
type places struct {
	b      []byte
	lasts  []uint32 // by a list: its last place, and 1
	aheads []uint32 // by a place: the one ahead of it in its list, and 1
}

// add: the places below an end come into their lists. Those that are there needn't come again.
func (p *places) add(end int) {
	if p.lasts == nil {
		p.lasts = make([]uint32, min(1<<bits.Len(uint(len(p.b))), mostLists))
		p.aheads = make([]uint32, 0, len(p.b))
	}
	for place := len(p.aheads); place < end; place++ {
		last := p.list(place)
		p.aheads = append(p.aheads, *last)
		*last = uint32(place + 1)
	}
}

// last: the last place that was added of the list of the two bytes at a place; below 0, if there is none.
func (p *places) last(place int) int { return int(*p.list(place)) - 1 }

// ahead: the one ahead of a place in its list; below 0, if there is none.
func (p *places) ahead(place int) int { return int(p.aheads[place]) - 1 }

// list: where the last place of the list of the two bytes at a place is kept.
func (p *places) list(place int) *uint32 {
	two := int(p.b[place])<<8 | int(p.b[place+1])
	return &p.lasts[two&(len(p.lasts)-1)]
}
