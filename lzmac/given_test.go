package lzmac_test

import (
	"encoding/hex"
	"math"
	"math/rand"
	"testing"

	"garbler/api"
	"garbler/lzma"
	"garbler/lzmac"
	"garbler/meter"
)

// usual is a setting of every day.
var usual = api.Lzma{Lc: 3, Pb: 2, Dict: 4096}

// literals: packets that tell a text.
func literals(text string) []api.Packet {
	var list []api.Packet
	for i := range len(text) {
		list = append(list, literal(text[i]))
	}
	return list
}

func literal(b byte) api.Packet { return api.Packet{Kind: api.Literal, Byte: b} }

func match(n int, dist uint32) api.Packet { return api.Packet{Kind: api.Match, Len: n, Dist: dist} }

func again(which, n int) api.Packet { return api.Packet{Kind: api.Again0 + which, Len: n} }

func single() api.Packet { return api.Packet{Kind: api.Single} }

func end() api.Packet { return api.Packet{Kind: api.End} }

// listed: packets, one behind the other, of texts (literals), packets, and lists.
func listed(parts ...any) []api.Packet {
	var list []api.Packet
	for _, x := range parts {
		switch x := x.(type) {
		case string:
			list = append(list, literals(x)...)
		case api.Packet:
			list = append(list, x)
		case []api.Packet:
			list = append(list, x...)
		}
	}
	return list
}

// times: a packet, n times.
func times(n int, x api.Packet) []api.Packet {
	var list []api.Packet
	for range n {
		list = append(list, x)
	}
	return list
}

func bytesOf(text string) []byte {
	b, err := hex.DecodeString(text)
	if err != nil {
		panic(err)
	}
	return b
}

func made(t *testing.T, p api.Lzma) *lzmac.Coder {
	t.Helper()
	c, code := lzmac.New(p)
	if c == nil || code != api.OK {
		t.Fatalf("P9.1: %+v: no coder, code %d", p, code)
	}
	return c
}

// put codes packets that fit.
func put(t *testing.T, c *lzmac.Coder, list ...api.Packet) {
	t.Helper()
	for i, x := range list {
		if !c.Fits(x) || !c.Code(x) {
			t.Fatalf("P9.1: packet %d, %+v, doesn't fit", i, x)
		}
	}
}

func much() *meter.Meter { return meter.New(api.Quota{Mem: 1 << 40}) }

// decoder is one of layer 8, with a window that is as long as the dictionary.
func decoder(t *testing.T, p api.Lzma) *lzma.Decoder {
	t.Helper()
	d, code := lzma.New(p, math.MaxInt, much())
	if code != api.OK {
		t.Fatalf("%+v: code %d", p, code)
	}
	return d
}

// tape is a source.
type tape struct{ b []byte }

func (s *tape) Next() (byte, bool) {
	if len(s.b) == 0 {
		return 0, false
	}
	b := s.b[0]
	s.b = s.b[1:]
	return b, true
}

// draw: the next n bytes that a decoder tells, or fewer, if it tells no more.
func draw(d *lzma.Decoder, n int) []byte {
	var out []byte
	for range n {
		b, ok := d.Next()
		if !ok {
			break
		}
		out = append(out, b)
	}
	return out
}

// settings: all of them that may be, with one dictionary.
func settings(dict int) []api.Lzma {
	var list []api.Lzma
	for pb := range 5 {
		for lp := range 5 {
			for lc := range 9 {
				list = append(list, api.Lzma{Lc: lc, Lp: lp, Pb: pb, Dict: dict})
			}
		}
	}
	return list
}

// wrongSettings: each of them goes beyond one bound, at least.
func wrongSettings() []api.Lzma {
	list := []api.Lzma{{}, {Lc: 3, Pb: 2}, {Lc: 9, Dict: 4096}, {Lp: 5, Dict: 4096}, {Pb: 5, Dict: 4096}, {Dict: 4095}, {Dict: 1 << 32}}
	for _, n := range []int{math.MinInt, math.MinInt32, -1, 1 << 32, math.MaxInt} {
		list = append(list, api.Lzma{Lc: n, Dict: 4096}, api.Lzma{Lp: n, Dict: 4096}, api.Lzma{Pb: n, Dict: 4096}, api.Lzma{Dict: n})
	}
	return list
}

func anySetting(r *rand.Rand) api.Lzma {
	return api.Lzma{Lc: r.Intn(9), Lp: r.Intn(5), Pb: r.Intn(5), Dict: 4096 + r.Intn(2)*r.Intn(5000)}
}

// lesser: a setting that has few probabilities, so that it begins fast.
func lesser(r *rand.Rand) api.Lzma {
	p := anySetting(r)
	p.Lc, p.Lp = r.Intn(4), r.Intn(3)
	return p
}

func anyLength(r *rand.Rand) int {
	edges := []int{2, 3, 4, 5, 9, 10, 17, 18, 272, 273}
	if r.Intn(4) > 0 {
		return edges[r.Intn(len(edges))]
	}
	return 2 + r.Intn(272)
}

// random: a packet that fits, of any kind but an end mark.
func (m *model) random(r *rand.Rand) api.Packet {
	there := min(m.p.Dict, len(m.all))
	if there == 0 || r.Intn(3) == 0 {
		if r.Intn(2) == 0 { // as a copy would tell, or near it
			return literal(m.at(m.reps[0]) ^ 1<<r.Intn(12))
		}
		return literal(byte(r.Intn(256)))
	}
	if which := r.Intn(4); r.Intn(2) == 0 && m.has(m.reps[which]) {
		if which == 0 && r.Intn(2) == 0 {
			return single()
		}
		return again(which, anyLength(r))
	}
	return match(anyLength(r), uint32(r.Intn(1+r.Intn(there))))
}

// wild: a packet of any numbers, near the edges of what fits.
func (m *model) wild(r *rand.Rand) api.Packet {
	lengths := []int{math.MinInt, -2, -1, 0, 1, 2, 273, 274, 275, 1 << 32, math.MaxInt}
	there := uint32(min(m.p.Dict, len(m.all)))
	dists := []uint32{0, there - 1, there, there + 1, uint32(m.p.Dict) - 1, uint32(m.p.Dict), 1 << 31, math.MaxUint32 - 1, math.MaxUint32}
	kinds := []int{math.MinInt, -1, 8, 9, 1 << 32, math.MaxInt}
	x := api.Packet{Kind: r.Intn(api.End), Byte: byte(r.Intn(256)), Len: lengths[r.Intn(len(lengths))], Dist: dists[r.Intn(len(dists))]}
	if r.Intn(3) == 0 {
		x.Kind = kinds[r.Intn(len(kinds))]
	}
	return x
}

// anyPackets: n packets that fit, and what a model of them has then.
func anyPackets(r *rand.Rand, p api.Lzma, n int) ([]api.Packet, *model) {
	m := newModel(p)
	var list []api.Packet
	for range n {
		x := m.random(r)
		m.code(x)
		list = append(list, x)
	}
	return list, m
}
