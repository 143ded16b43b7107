package lzma_test

import (
	"math"
	"math/rand"
	"testing"

	"garbler/api"
	"garbler/lzma"
	"garbler/meter"
	"garbler/renc"
)

// coder codes packets for a decoder that has what its model has.
type coder struct {
	*model
	c *renc.Coder
}

func newCoder(p api.Lzma, size int) *coder { return &coder{newModel(p, size), renc.New()} }

// code: what x tells. One that doesn't fit is coded, too, and tells nothing.
func (c *coder) code(x api.Packet) []byte {
	x, ok := c.packet(writer{c.c}, x)
	if !ok || x.Kind == api.End {
		return nil
	}
	return c.tell(x)
}

// coded: the stream of packets, and what they tell.
func coded(p api.Lzma, list ...api.Packet) ([]byte, []byte) {
	c := newCoder(p, math.MaxInt)
	for _, x := range list {
		c.code(x)
	}
	return c.c.Finish(), c.all
}

// literals: packets that tell a text.
func literals(text string) []api.Packet {
	var list []api.Packet
	for i := range len(text) {
		list = append(list, api.Packet{Kind: api.Literal, Byte: text[i]})
	}
	return list
}

func match(n int, dist uint32) api.Packet {
	return api.Packet{Kind: api.Match, Len: n, Dist: dist}
}

func again(kind, n int) api.Packet { return api.Packet{Kind: kind, Len: n} }

func end() api.Packet { return api.Packet{Kind: api.End} }

// random: a packet that fits, of any kind but an end mark.
func (m *model) random(r *rand.Rand) api.Packet {
	there := min(m.size, len(m.all))
	if there == 0 || r.Intn(3) == 0 {
		if b := m.at(m.reps[0]); r.Intn(2) == 0 { // as a copy would tell, or near it
			return api.Packet{Kind: api.Literal, Byte: b ^ 1<<r.Intn(12)}
		}
		return api.Packet{Kind: api.Literal, Byte: byte(r.Intn(256))}
	}
	if which := r.Intn(4); r.Intn(2) == 0 && m.has(m.reps[which]) {
		if which == 0 && r.Intn(2) == 0 {
			return api.Packet{Kind: api.Single}
		}
		return again(api.Again0+which, anyLength(r))
	}
	return match(anyLength(r), uint32(r.Intn(1+r.Intn(there))))
}

func anyLength(r *rand.Rand) int {
	edges := []int{2, 3, 4, 5, 9, 10, 17, 18, 272, 273}
	if r.Intn(4) > 0 {
		return edges[r.Intn(len(edges))]
	}
	return 2 + r.Intn(272)
}

func anySetting(r *rand.Rand) api.Lzma {
	return api.Lzma{Lc: r.Intn(9), Lp: r.Intn(5), Pb: r.Intn(5), Dict: 4096 + r.Intn(2)*r.Intn(5000)}
}

// anyStream: a stream of n packets that fit, with or without an end mark, and what it tells.
func anyStream(r *rand.Rand, p api.Lzma, n int) ([]byte, []byte) {
	c := newCoder(p, math.MaxInt)
	for range n {
		c.code(c.random(r))
	}
	if r.Intn(2) == 0 {
		c.code(api.Packet{Kind: api.End, Len: anyLength(r)})
	}
	return c.c.Finish(), c.all
}

// room is enough for every decoder of a test.
const room = 1 << 40

func much() *meter.Meter { return meterOf(room) }

func meterOf(mem int) *meter.Meter { return meter.New(api.Quota{Mem: mem}) }

// made is a decoder, and its meter.
func made(t *testing.T, p api.Lzma, size int) (*lzma.Decoder, *meter.Meter) {
	t.Helper()
	m := much()
	d, code := lzma.New(p, size, m)
	if d == nil || code != api.OK {
		t.Fatalf("P8.2: %+v, size %d: no decoder, code %d", p, size, code)
	}
	return d, m
}

// draw: the next n bytes that a decoder tells, or fewer, if it tells no more.
func draw(d *lzma.Decoder, n int) []byte {
	var out []byte
	for range n {
		b, ok := d.Next()
		if !ok {
			break
		}
		out = append(out, b)
	}
	return out
}

// silent holds that a decoder tells nothing, however often it is asked.
func silent(t *testing.T, promise, what string, d *lzma.Decoder) {
	t.Helper()
	for range 3 {
		if b, ok := d.Next(); b != 0 || ok {
			t.Fatalf("%s: %s: %d, %v is told", promise, what, b, ok)
		}
	}
}
