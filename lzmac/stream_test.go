package lzmac_test

import (
	"bytes"
	"math"
	"math/rand"
	"testing"

	"garbler/api"
	"garbler/lzma"
	"garbler/lzmac"
)

// unpacked holds that a stream is one of just these bytes, by layer 8.
func unpacked(t *testing.T, promise string, b []byte, p api.Lzma, want []byte) {
	t.Helper()
	if out, code := lzma.Unpack(b, p, len(want), much()); !bytes.Equal(out, want) || code != api.OK {
		t.Fatalf("%s: %+v: %d bytes tell %d bytes, not %d, or others; code %d", promise, p, len(b), len(out), len(want), code)
	}
}

// TestStreamsOfAnotherCoder: of the packets of its streams come the same bytes.
func TestStreamsOfAnotherCoder(t *testing.T) {
	for _, e := range []struct {
		p      api.Lzma
		stream string
		list   []api.Packet
	}{
		{api.Lzma{Lc: 3, Pb: 2}, "0083fffbffffc0000000", listed(end())},
		{
			api.Lzma{Lc: 3, Pb: 2},
			"003a1bc00521e50a4d8c928b5ec36640d71dbc6fc9ad1cc69eb77594abcedcb4ead32141bf8f3b1ee005417ee7555bffd2028000",
			listed("to be or not ", match(5, 12), ",", match(2, 6), "ha", match(2, 11), "is", single(), match(17, 27), single(), ":", match(4, 10), match(7, 31), match(10, 34), ",", match(3, 35), match(6, 15), match(4, 30), ".", end()),
		},
		{
			api.Lzma{Lp: 2},
			"00379c65d69b8649455245e02e2a58e35a41a0968b92538848bc0a6391f95655c5a755a42a9b6a3fa73773072dcaafffffb1ea0000",
			listed("one=1;two=2;", match(4, 11), "3", again(0, 5), "4", single(), match(12, 23), "ten", again(1, 2), match(4, 17), again(1, 2), match(6, 29), again(2, 5), "3", single(), "six", single(), "6", match(6, 41), again(1, 4), again(2, 7), "2", single(), end()),
		},
		{
			api.Lzma{Lc: 4, Pb: 4},
			"0030eb14a71a32ac4982e5c5fe0c74c7b3ffff3e040000",
			listed("a", again(0, 8), "b", match(9, 9), "c", match(29, 19), "db", again(2, 47), end()),
		},
		{
			api.Lzma{Lc: 2, Pb: 1},
			"00309888fd41a5c84b665cc9ef5735f424580366bb6e33b889a7c23f165c37c7ed54d88bb15b9affff35140000",
			listed("abcdX", match(4, 4), "Y", match(5, 9), "efgh", match(6, 14), again(1, 4), "Z", again(0, 4), "W", match(10, 19), "ijkl", single(), again(2, 4), "W", match(5, 44), again(1, 4), match(5, 54), again(3, 5), end()),
		},
		{
			api.Lzma{Lp: 4, Pb: 3},
			"0033984a46236194e42de0ff740d2bbffad8874dc146d1164b980e84c1723da87d5be8d0f56ce2bfaf946490ba9d901ef0f8e98adecd569f3aae50cbcee94fd5645f4bf988e137f69ea4a30020af8731b0c01741123827c7684e1e3ab4199d6a0e1d4fe61249845f2a9bfb1ffffc6477e0",
			listed("garbler-", again(0, 273), again(0, 26), match(7, 306), ".", again(1, 273), times(255, again(0, 273)), again(0, 111), match(7, 70006), end()),
		},
	} {
		e.p.Dict = 1 << 20
		b, told, code := lzmac.Pack(e.p, e.list)
		if !bytes.Equal(b, bytesOf(e.stream)) || code != api.OK {
			t.Errorf("P9.4: %+v: %x, not %s; code %d", e.p, b, e.stream, code)
		}
		unpacked(t, "P9.5", b, e.p, told)
	}
}

// TestPackLeavesOut: packets that don't fit, and all behind an end mark.
func TestPackLeavesOut(t *testing.T) {
	fit := listed("ab", match(7, 1), "c", single(), again(1, 20), "z", again(3, 273), again(0, 2), end())
	all := listed(single(), again(2, 9), match(2, 0), "ab", match(1, 0), match(7, 1), match(2, 9), api.Packet{Kind: 8}, "c", single(), api.Packet{Kind: -1, Byte: 'x'}, match(3, math.MaxUint32), again(1, 20), again(1, 274), again(2, 0), "z", again(3, 273), again(0, 2), match(300, 0), end(), "q", end(), again(1, 2), single())
	was := append([]api.Packet{}, all...)
	b, told, code := lzmac.Pack(usual, all)
	want, wanted, _ := lzmac.Pack(usual, fit)
	if !bytes.Equal(b, want) || !bytes.Equal(told, wanted) || code != api.OK || len(told) != 2+7+1+1+20+1+273+2 {
		t.Errorf("P9.4: %x, %q, code %d; not %x, %q", b, told, code, want, wanted)
	}
	for i, x := range was {
		if all[i] != x {
			t.Errorf("P9.4: packet %d of what was handed in is %+v, was %+v", i, all[i], x)
		}
	}
	unpacked(t, "P9.5", b, usual, told)
	clear(append(b, told...))
	clear(b)
	clear(told)
	if b, told, _ := lzmac.Pack(usual, all); !bytes.Equal(b, want) || !bytes.Equal(told, wanted) {
		t.Errorf("P9.4: %x, %q behind a change of what was answered", b, told)
	}
}

// TestEachSetting: its place's bits and its literals' ones, with a dictionary that is less than what is told; with and without an end mark.
func TestEachSetting(t *testing.T) {
	for i, p := range settings(4096) {
		list, m := anyPackets(rand.New(rand.NewSource(int64(i))), p, 250)
		if i%2 == 0 {
			list = append(list, end())
			m.code(end())
		}
		b, told, code := lzmac.Pack(p, list)
		if !bytes.Equal(b, m.finish()) || !bytes.Equal(told, m.all) || code != api.OK {
			t.Fatalf("P9.4: %+v: %d bytes, not the model's; code %d", p, len(b), code)
		}
		unpacked(t, "P9.5", b, p, told)
	}
}

// TestAnyStream: packets of all kinds by any setting, and numbers in them to which their kinds give no meaning.
func TestAnyStream(t *testing.T) {
	for seed := range int64(1000) {
		r := rand.New(rand.NewSource(seed))
		p := lesser(r)
		list, m := anyPackets(r, p, r.Intn(100))
		b, told, code := lzmac.Pack(p, list)
		if !bytes.Equal(b, m.finish()) || !bytes.Equal(told, m.all) || code != api.OK {
			t.Fatalf("P9.4: seed %d: %x, %x, code %d", seed, b, told, code)
		}
		unpacked(t, "P9.5", b, p, told)
		for i, x := range list {
			list[i] = garnished(r, x)
		}
		if same, toldSame, code := lzmac.Pack(p, list); !bytes.Equal(same, b) || !bytes.Equal(toldSame, told) || code != api.OK {
			t.Fatalf("P9.5: seed %d: %x, not %x", seed, same, b)
		}
	}
}

// garnished: a packet, with other numbers where they have no meaning.
func garnished(r *rand.Rand, x api.Packet) api.Packet {
	if x.Kind != api.Literal {
		x.Byte = byte(r.Intn(256))
	}
	if x.Kind == api.Literal || x.Kind == api.Single {
		x.Len = r.Intn(600) - 300
	}
	if x.Kind != api.Match {
		x.Dist = r.Uint32()
	}
	return x
}

// TestEachLength: of a match and of a copy again, at each of the place's bits.
func TestEachLength(t *testing.T) {
	for pb := range 5 {
		p := api.Lzma{Lc: 1, Lp: 1, Pb: pb, Dict: 4096}
		list := literals("abcdefg")
		for n := 2; n <= 273; n++ {
			list = append(list, match(n, uint32(n%7)), again(1, n), literal('z'))
		}
		for n := 2; n <= 18; n++ {
			for range 17 {
				list = append(list, match(n, 3), again(0, n))
			}
		}
		m := newModel(p)
		for _, x := range list {
			m.code(x)
		}
		b, told, code := lzmac.Pack(p, list)
		if !bytes.Equal(b, m.finish()) || code != api.OK {
			t.Errorf("P9.4: %+v: %d bytes, not the model's; code %d", p, len(b), code)
		}
		unpacked(t, "P9.5", b, p, told)
	}
}

// TestEachSlot: distances at both ends of every slot that has bytes here, and some between, by a packet of each row of slots.
func TestEachSlot(t *testing.T) {
	const there = 1 << 24
	p := api.Lzma{Dict: math.MaxUint32}
	had := make([]byte, there)
	rand.New(rand.NewSource(2)).Read(had)
	c, m, d := made(t, p), newModel(p), decoder(t, p)
	c.Put(had)
	m.all = append(m.all, had...)
	for _, b := range had {
		d.Put(b)
	}
	for slot := range 48 {
		for _, dist := range ends(slot) {
			for n := 2; n <= 6; n++ {
				c.Reset(p)
				m.reset(p)
				d.Reset(p)
				x := match(n, dist)
				from := len(m.all)
				if fits := m.code(x); fits != c.Code(x) || !fits {
					t.Fatalf("P9.1: %+v doesn't fit", x)
				}
				b, want := c.Finish(), m.finish()
				d.Begin(&tape{b})
				if out := draw(d, n); !bytes.Equal(b, want) || !bytes.Equal(out, m.all[from:]) || !d.Whole() {
					t.Fatalf("P9.2: slot %d, %+v: %x, not %x", slot, x, b, want)
				}
			}
		}
	}
}

// ends: the least distance of a slot, the greatest, and some between.
func ends(slot int) []uint32 {
	least, next := slot, slot+1
	if slot >= 4 {
		least = (2 + slot%2) << (slot/2 - 1)
		next = (2 + (slot+1)%2) << ((slot+1)/2 - 1)
	}
	return []uint32{uint32(least), uint32(next - 1), uint32((least + next) / 2), uint32((2*least + next) / 3)}
}

// TestWhatFitsADecoderTakes: and just that: a decoder that comes to a packet that doesn't fit tells nothing more.
func TestWhatFitsADecoderTakes(t *testing.T) {
	ends := map[bool]int{}
	for seed := range int64(2000) {
		r := rand.New(rand.NewSource(seed))
		p := lesser(r)
		c, m, d := made(t, p), newModel(p), decoder(t, p)
		for range r.Intn(12) {
			x := m.random(r)
			m.code(x)
			put(t, c, x)
		}
		d.Begin(&tape{m.finish()})
		draw(d, len(m.all))
		c.Finish()
		if r.Intn(2) == 0 { // elder distances may not be there any more
			c.Empty()
			d.Empty()
			m.all = nil
		}
		more := make([]byte, r.Intn(1<<r.Intn(14)))
		c.Put(more)
		m.all = append(m.all, more...)
		for _, b := range more {
			d.Put(b)
		}
		x := m.wild(r)
		x.Kind, x.Len = api.Match+r.Intn(6), 2
		if x.Kind == api.Match && x.Dist == math.MaxUint32 {
			x.Dist-- // that is no match's, but the end mark's
		}
		fits := c.Fits(x)
		ends[fits]++
		m.bits(x)
		d.Begin(&tape{append(m.finish(), make([]byte, 20)...)})
		if _, takes := d.Next(); takes != fits {
			t.Fatalf("P9.1: seed %d: behind %d bytes %+v fits: %v", seed, len(m.all), x, fits)
		}
	}
	if ends[true] < 300 || ends[false] < 300 {
		t.Errorf("%v: too few of a kind", ends)
	}
}

// TestADecoderGoesAlong: what is called between packets, in the midst of a stream too, a decoder that is told the same goes along with.
func TestADecoderGoesAlong(t *testing.T) {
	for seed := range int64(400) {
		r := rand.New(rand.NewSource(seed))
		p := lesser(r)
		c, d, m := made(t, p), decoder(t, p), newModel(p)
		var want []byte
		var along []func()
		for range 1 + r.Intn(8) {
			n := len(want)
			switch r.Intn(4) {
			case 0:
				q := lesser(r)
				q.Lc, q.Lp = r.Intn(p.Lc+1), r.Intn(p.Lp+1) // the decoder has no room for more
				c.Reset(q)
				m.reset(q)
				along = append(along, func() { d.Reset(q) })
			case 1:
				c.Empty()
				m.all = nil
				along = append(along, d.Empty)
			default:
				more := make([]byte, r.Intn(30))
				r.Read(more)
				c.Put(more)
				m.all = append(m.all, more...)
				along = append(along, func() {
					for _, b := range more {
						d.Put(b)
					}
				})
			}
			for range r.Intn(10) {
				x := m.random(r)
				from := len(m.all)
				m.code(x)
				put(t, c, x)
				want = append(want, m.all[from:]...)
			}
			told := want[n:]
			along = append(along, func() {
				if out := draw(d, len(told)); !bytes.Equal(out, told) {
					t.Fatalf("P9.3: seed %d: %x, not %x", seed, out, told)
				}
			})
		}
		d.Begin(&tape{c.Finish()})
		for _, step := range along {
			step()
		}
		if !d.Finish() {
			t.Fatalf("P9.5: seed %d: the stream doesn't end", seed)
		}
	}
}
