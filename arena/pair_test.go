package arena_test

import (
	"math"
	"math/rand"
	"testing"

	"garbler/api"
	"garbler/arena"
	"garbler/meter"
)

// made is an arena of a size, with a meter that has more than enough.
func made(t *testing.T, size int) *arena.Arena {
	t.Helper()
	a, code := arena.New(size, meter.New(api.Quota{Mem: math.MaxInt}))
	if a == nil || code != api.OK {
		t.Fatalf("P16.1: of %d bytes: no arena, code %d", size, code)
	}
	return a
}

// block is one that was given out, for n units.
type block struct{ at, n int }

// end: where the block ends.
func (b block) end() int { return b.at + modelSize(b.n)*unit }

// pair is an arena and its model, which are given the same calls; and which blocks they gave out.
type pair struct {
	t     *testing.T
	a     *arena.Arena
	m     *model
	given []block
	calls []call
}

func newPair(t *testing.T, size int) *pair {
	t.Helper()
	return &pair{t: t, a: made(t, size), m: newModel(size)}
}

// do: a call of both, and what the arena answered.
func (p *pair) do(c call) int {
	p.t.Helper()
	p.calls = append(p.calls, c)
	got, want := c.of(p.a), p.m.answer(c)
	if got != want || p.a.Text() != p.m.text {
		p.t.Fatalf("%d bytes: behind %v: %d, not %d; the text ends at %d, not %d", p.m.size, p.last(), got, want, p.a.Text(), p.m.text)
	}
	return got
}

// last: the last calls.
func (p *pair) last() []call { return p.calls[max(len(p.calls)-20, 0):] }

// get: a block of both, which is kept in mind; whether there is one.
func (p *pair) get(n int) bool {
	p.t.Helper()
	at := p.do(call{kind: units, n: n})
	if at != 0 {
		p.given = append(p.given, block{at, n})
	}
	return at != 0
}

// single: a unit of both, likewise.
func (p *pair) single() bool {
	p.t.Helper()
	at := p.do(call{kind: one})
	if at != 0 {
		p.given = append(p.given, block{at, 1})
	}
	return at != 0
}

// giveBack: the block that was given out as the one of that number is free.
func (p *pair) giveBack(i int) {
	p.t.Helper()
	b := p.given[i]
	p.given = append(p.given[:i], p.given[i+1:]...)
	p.do(call{kind: free, at: b.at, n: b.n})
}

// back: blocks are free, in that order.
func (p *pair) back(blocks ...block) {
	p.t.Helper()
	gone := map[int]bool{}
	for _, b := range blocks {
		p.do(call{kind: free, at: b.at, n: b.n})
		gone[b.at] = true
	}
	var kept []block
	for _, b := range p.given {
		if !gone[b.at] {
			kept = append(kept, b)
		}
	}
	p.given = kept
}

// less: the block of that number has n units only.
func (p *pair) less(i, n int) {
	p.t.Helper()
	b := p.given[i]
	p.given[i] = block{p.do(call{kind: shrink, at: b.at, old: b.n, n: n}), n}
}

// fillText: bytes are put till there are just as many left to the units' start.
func (p *pair) fillText(left int) {
	p.t.Helper()
	for p.m.start-p.m.text > left {
		p.do(call{kind: push, n: p.m.text % 251})
	}
}

// drain: blocks of both, from the greatest size to the least or the other way, till there is nothing left.
func (p *pair) drain(down bool) {
	p.t.Helper()
	sizes := modelSizes
	for i := range sizes {
		n := sizes[i]
		if down {
			n = sizes[len(sizes)-1-i]
		}
		for p.get(n) {
		}
	}
}

// mark: other bytes in a block.
func (p *pair) mark(b block, r *rand.Rand) {
	for at := b.at; at < b.end(); at++ {
		x := byte(r.Intn(256))
		p.a.SetByte(at, x)
		p.m.set(at, x)
	}
}

// sameBytes: all bytes are the model's.
func (p *pair) sameBytes() {
	p.t.Helper()
	for at := range p.m.size + 3 {
		if x := p.a.Byte(at); x != p.m.bytes[at] {
			p.t.Fatalf("%d bytes: behind %v: at %d there is %d, not %d", p.m.size, p.last(), at, x, p.m.bytes[at])
		}
	}
}

// apart: no two of the blocks that are given out have a byte in common, nor one with the text, and all lie in the arena.
func (p *pair) apart() {
	p.t.Helper()
	owned := make([]bool, p.m.size+2)
	for at := range min(p.a.Text(), len(owned)) {
		owned[at] = true
	}
	for _, b := range p.given {
		if b.at < 1 || b.end() > p.m.size+1 {
			p.t.Fatalf("P16.5: %d bytes: behind %v: %v lies beyond", p.m.size, p.last(), b)
		}
		for at := b.at; at < b.end(); at++ {
			if owned[at] {
				p.t.Fatalf("P16.5: %d bytes: behind %v: %v has the byte at %d, which is another's", p.m.size, p.last(), b, at)
			}
			owned[at] = true
		}
	}
}
