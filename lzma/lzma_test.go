package lzma_test

import (
	"bytes"
	"math"
	"math/rand"
	"testing"

	"garbler/api"
	"garbler/lzma"
	"garbler/meter"
)

// usual is a setting of every day.
var usual = api.Lzma{Lc: 3, Pb: 2, Dict: 4096}

// asked: how many bytes a meter is asked for.
func asked(p api.Lzma, size int) int {
	return max(1, min(p.Dict, size)) + 2*lzma.Probs(p)
}

// TestMemoryIsAskedFor: just as much as said, whether the meter has it, or one byte more, or one fewer, or enough for one part of it.
func TestMemoryIsAskedFor(t *testing.T) {
	for _, p := range []api.Lzma{{Dict: 4096}, usual, {Lc: 8, Lp: 4, Pb: 4, Dict: 4097}, {Lc: 4, Dict: math.MaxUint32}} {
		for _, size := range []int{math.MinInt, -1, 0, 1, 2, 4095, 4096, 4097, 1 << 20, math.MaxUint32 - 1, math.MaxUint32, 1 << 32, math.MaxInt} {
			want := asked(p, size)
			for _, have := range []int{want, want + 1, math.MaxInt} {
				m := meterOf(have)
				d, code := lzma.New(p, size, m)
				if d == nil || code != api.OK || m.Code() != api.OK || m.Used() != (api.Used{Mem: want, Peak: want}) {
					t.Fatalf("P8.2: %+v, size %d of %d bytes: code %d, used %+v", p, size, have, code, m.Used())
				}
			}
			for _, have := range []int{want - 1, want - 2*lzma.Probs(p), 2 * lzma.Probs(p), 1, 0, -1} {
				m := meterOf(have)
				d, code := lzma.New(p, size, m)
				if d != nil || code != api.QMem || m.Used().Mem != 0 || m.Code() != api.QMem {
					t.Fatalf("P8.2: %+v, size %d of %d bytes: code %d, used %+v", p, size, have, code, m.Used())
				}
			}
		}
	}
}

// TestMemoryIsAskedForBesideOthers: what the meter gave to one stays its own, if another one isn't made.
func TestMemoryIsAskedForBesideOthers(t *testing.T) {
	one := asked(usual, 100)
	m := meterOf(2*one + 9)
	m.Mem(10)
	d, code := lzma.New(usual, 100, m)
	if d == nil || code != api.OK || m.Used().Mem != one+10 {
		t.Fatalf("P8.2: code %d, used %+v", code, m.Used())
	}
	if e, code := lzma.New(usual, 100, m); e != nil || code != api.QMem || m.Used().Mem != one+10 {
		t.Errorf("P8.2: another one: code %d, used %+v", code, m.Used())
	}
	b, told := coded(usual, append(literals("abc"), match(20, 2))...)
	d.Begin(&tape{b: b})
	if out := draw(d, 23); !bytes.Equal(out, told) {
		t.Errorf("P8.2: %q, not %q", out, told)
	}
}

func TestMeterThatIsSpent(t *testing.T) {
	for _, code := range []api.Code{api.QMem, api.QOut, api.QFiles, api.QDepth, api.QSteps} {
		m := spent(code)
		if d, got := lzma.New(usual, 1, m); d != nil || got != code || m.Used().Mem != 0 {
			t.Errorf("P8.2: spent by %d: code %d", code, got)
		}
		if b, got := lzma.Unpack(make([]byte, 5), usual, 0, m); len(b) != 0 || got != code || m.Used().Mem != 0 {
			t.Errorf("P8.5: spent by %d: %x, code %d", code, b, got)
		}
	}
}

// spent is a meter that is spent by a quota, and has memory enough.
func spent(code api.Code) *meter.Meter {
	m := meterOf(room)
	switch code {
	case api.QMem:
		m.Mem(room + 1)
	case api.QOut:
		m.Out(1)
	case api.QFiles:
		m.File()
	case api.QDepth:
		m.Down()
	case api.QSteps:
		m.Step(1)
	}
	return m
}

// TestWrongSettings: Props comes ahead of a meter's code, and the meter isn't asked.
func TestWrongSettings(t *testing.T) {
	for _, p := range wrongSettings() {
		for _, m := range []*meter.Meter{much(), meter.New(api.Quota{}), spent(api.QSteps)} {
			was, code := m.Used(), m.Code()
			if d, got := lzma.New(p, 10, m); d != nil || got != api.Props {
				t.Errorf("P8.2: %+v: code %d", p, got)
			}
			if b, got := lzma.Unpack(make([]byte, 5), p, 0, m); len(b) != 0 || got != api.Props {
				t.Errorf("P8.5: %+v: %x, code %d", p, b, got)
			}
			if m.Used() != was || m.Code() != code {
				t.Errorf("P8.2: %+v: used %+v, code %d", p, m.Used(), m.Code())
			}
		}
	}
}

func TestAheadOfBegin(t *testing.T) {
	d, _ := made(t, usual, 100)
	silent(t, "P8.2", "ahead of Begin", d)
	if d.Whole() || d.Finish() || d.Whole() {
		t.Error("P8.3: a stream ends ahead of Begin")
	}
	silent(t, "P8.2", "ahead of Begin", d)
	d.Begin(&tape{b: make([]byte, 7)})
	if out := draw(d, 100); !bytes.Equal(out, []byte{0, 0}) {
		t.Errorf("P8.2: %x", out)
	}
}

// TestOneOfEachPacket: every kind, and a stream of a size or with an end mark.
func TestOneOfEachPacket(t *testing.T) {
	list := append(literals("abcde"), match(2, 4), match(3, 1), match(9, 0), match(4, 2), match(2, 7))
	for _, kind := range []int{api.Again0, api.Again1, api.Again2, api.Again3, api.Again3, api.Again1, api.Again2} {
		list = append(list, again(kind, 2), api.Packet{Kind: api.Literal, Byte: 'x'}, again(kind, 273), api.Packet{Kind: api.Single})
	}
	for _, list := range [][]api.Packet{list, append(list, end())} {
		b, told := coded(usual, list...)
		if out, code := lzma.Unpack(b, usual, len(told), much()); !bytes.Equal(out, told) || code != api.OK {
			t.Errorf("P8.5: %q, code %d; not %q", out, code, told)
		}
	}
}

// TestStreamsOfAnotherCoder: what a coder that is in wide use makes of a text, and an end mark.
func TestStreamsOfAnotherCoder(t *testing.T) {
	for _, e := range foreign() {
		p, code := lzma.Parse(e.props)
		if code != api.OK {
			t.Fatalf("P8.1: %x: code %d", e.props, code)
		}
		if out, code := lzma.Unpack(e.stream, p, len(e.text), much()); string(out) != e.text || code != api.OK {
			t.Errorf("P8.5: %x: %q, code %d", e.stream, out, code)
		}
	}
}

// TestEachLength: of a match and of a copy again, at each of the place's bits.
func TestEachLength(t *testing.T) {
	for pb := range 5 {
		p := api.Lzma{Lc: 1, Lp: 1, Pb: pb, Dict: 4096}
		list := literals("abcdefg")
		for n := 2; n <= 273; n++ {
			list = append(list, match(n, uint32(n%7)), again(api.Again1, n), literals("z")[0])
		}
		for n := 2; n <= 18; n++ {
			for range 17 {
				list = append(list, match(n, 3), again(api.Again0, n))
			}
		}
		b, told := coded(p, list...)
		if out, code := lzma.Unpack(b, p, len(told), much()); !bytes.Equal(out, told) || code != api.OK {
			t.Errorf("P8.5: %+v: code %d, %d bytes", p, code, len(out))
		}
	}
}

// TestEachSlot: distances at both ends of every slot, by a packet of each row of slots; those at which no byte is are bad.
func TestEachSlot(t *testing.T) {
	const there = 1 << 22
	p := api.Lzma{Dict: math.MaxUint32}
	r := rand.New(rand.NewSource(2))
	had := make([]byte, there)
	r.Read(had)
	d, _ := made(t, p, there+1<<16)
	c := newCoder(p, there+1<<16)
	for _, b := range had {
		d.Put(b)
		c.put(b)
	}
	for slot := range 64 {
		for _, dist := range ends(slot) {
			for n := 2; n <= 6; n++ {
				d.Reset(p)
				c.reset(p)
				want := bytes.Clone(c.code(match(n, dist)))
				d.Begin(&tape{b: c.c.Finish()})
				if out := draw(d, n); !bytes.Equal(out, want) || (len(want) > 0) != d.Whole() {
					t.Fatalf("P8.2: slot %d, distance %d, length %d: %x, not %x", slot, dist, n, out, want)
				}
			}
		}
	}
}

// ends: the least distance of a slot, the greatest, and some between; but none that is the end mark.
func ends(slot int) []uint32 {
	least, next := uint64(slot), uint64(slot+1)
	if slot >= 4 {
		least = uint64(2+slot%2) << (slot/2 - 1)
		next = uint64(2+(slot+1)%2) << ((slot+1)/2 - 1)
	}
	last := min(next-1, math.MaxUint32-1)
	return []uint32{uint32(least), uint32(last), uint32((least + last) / 2), uint32((2*least + last) / 3)}
}

// TestEndsOfTheWindow: the farthest byte that is there may be copied, the one beyond it is bad, whether it never was there, or lies beyond the dictionary, or beyond a size that is less.
func TestEndsOfTheWindow(t *testing.T) {
	for _, e := range []struct{ dict, size, had, there int }{
		{4096, 1 << 20, 1, 1},
		{4096, 1 << 20, 2, 2},
		{4096, 1 << 20, 4095, 4095},
		{4096, 1 << 20, 4096, 4096},
		{4096, 1 << 20, 4097, 4096},
		{4096, 1 << 20, 9999, 4096},
		{5000, 1 << 20, 9999, 5000},
		{5000, 4999, 9999, 4999},
		{5000, 10, 9, 9},
		{5000, 10, 99, 10},
		{5000, 1, 99, 1},
		{5000, -7, 99, 1},
		{math.MaxUint32, 1 << 40, 70000, 70000},
	} {
		p := api.Lzma{Lc: 3, Pb: 2, Dict: e.dict}
		for _, x := range []api.Packet{match(2, uint32(e.there-1)), match(2, uint32(e.there)), match(3, uint32(e.there+1)), match(273, math.MaxUint32-1)} {
			d, _ := made(t, p, e.size)
			c := newCoder(p, e.size)
			for i := range e.had {
				d.Put(byte(i % 251))
				c.put(byte(i % 251))
			}
			want := bytes.Clone(c.code(x))
			if good := int(x.Dist) < e.there; good != (len(want) > 0) {
				t.Fatalf("%+v, %+v: the model is at fault", e, x)
			}
			d.Begin(&tape{b: c.c.Finish()})
			if out := draw(d, x.Len); !bytes.Equal(out, want) || d.Whole() != (len(want) > 0) {
				t.Errorf("P8.2: %+v, %+v: %x, not %x", e, x, out, want)
			}
		}
	}
}

// TestElderDistancesThatAreNotThere: they are bad when they come first, not earlier; so is each, as long as nothing is in the window.
func TestElderDistancesThatAreNotThere(t *testing.T) {
	for _, kind := range []int{api.Again0, api.Again1, api.Again2, api.Again3, api.Single} {
		x := again(kind, 2)
		b, _ := coded(usual, x)
		d, _ := made(t, usual, 100)
		d.Begin(&tape{b: append(b, make([]byte, 20)...)})
		silent(t, "P8.2", "an elder distance with nothing in the window", d)
		if d.Whole() || d.Finish() {
			t.Errorf("P8.3: %+v first", x)
		}
		b, told := coded(usual, literals("q")[0], x)
		d, _ = made(t, usual, 100)
		d.Begin(&tape{b: b})
		if out := draw(d, len(told)); !bytes.Equal(out, told) || len(out) < 2 || !d.Whole() {
			t.Errorf("P8.2: %+v behind a byte: %q", x, out)
		}
	}
}

func TestBehindTheEndMark(t *testing.T) {
	for n := 2; n <= 273; n++ {
		b, _ := coded(usual, append(literals("abc"), api.Packet{Kind: api.End, Len: n})...)
		d, _ := made(t, usual, 100)
		d.Begin(&tape{b: b})
		if out := draw(d, 100); string(out) != "abc" {
			t.Errorf("P8.2: length %d: %q", n, out)
		}
		silent(t, "P8.2", "behind the end mark", d)
		if !d.Whole() || !d.Finish() || d.Finish() || d.Whole() {
			t.Errorf("P8.3: length %d: the stream doesn't end, or twice", n)
		}
		silent(t, "P8.3", "behind Finish", d)
	}
}

// TestPacketsBehindTheEndMark: there are none, whatever bytes are left.
func TestPacketsBehindTheEndMark(t *testing.T) {
	b, _ := coded(usual, append([]api.Packet{literals("a")[0], end()}, literals("bc")...)...)
	d, _ := made(t, usual, 100)
	d.Begin(&tape{b: b})
	if out := draw(d, 100); string(out) != "a" || d.Whole() || d.Finish() {
		t.Errorf("P8.2: %q behind an end mark within a stream", out)
	}
	if out, code := lzma.Unpack(b, usual, 3, much()); len(out) != 0 || code != api.Data {
		t.Errorf("P8.5: %q, code %d", out, code)
	}
	if out, code := lzma.Unpack(b, usual, 1, much()); len(out) != 0 || code != api.Data {
		t.Errorf("P8.5: %q, code %d", out, code)
	}
}

// TestBadStays: bad packets, bytes that are missing, a beginning that isn't as it must be; nothing is told behind it, though bytes are left.
func TestBadStays(t *testing.T) {
	far, _ := coded(usual, append(literals("abc"), match(5, 3))...)
	for _, e := range []struct {
		b    []byte
		told string
	}{
		{nil, ""},
		{make([]byte, 4), ""},
		{append([]byte{1}, make([]byte, 99)...), ""},
		{append([]byte{0, 255, 255, 255, 255}, make([]byte, 99)...), ""},
		{append(far, make([]byte, 99)...), "abc"},
		{far, "abc"},
	} {
		d, _ := made(t, usual, 100)
		s := &tape{b: e.b}
		d.Begin(s)
		if out := draw(d, 100); string(out) != e.told {
			t.Errorf("P8.2: %x: %q, not %q", e.b, out, e.told)
		}
		asked := s.asked
		silent(t, "P8.2", "bad", d)
		if d.Whole() || d.Finish() || s.asked != asked {
			t.Errorf("P8.3: %x: a bad stream ends, or %d bytes are asked for, not %d", e.b, s.asked, asked)
		}
		silent(t, "P8.2", "bad", d)
	}
}

// TestBeginGoesOn: a new range decoder finds all else as it was: place, state, distances, probabilities, window; behind an end mark too.
func TestBeginGoesOn(t *testing.T) {
	for seed := range int64(200) {
		r := rand.New(rand.NewSource(seed))
		p := anySetting(r)
		d, _ := made(t, p, 1<<20)
		c := newCoder(p, 1<<20)
		for range 2 + r.Intn(6) {
			from := len(c.all)
			for range r.Intn(30) {
				c.code(c.random(r))
			}
			n := len(c.all) - from
			marked := r.Intn(3) == 0
			if marked {
				c.code(end())
				n++ // it has to be read, too
			}
			d.Begin(&tape{b: c.c.Finish()})
			if out := draw(d, n); !bytes.Equal(out, c.all[from:]) {
				t.Fatalf("P8.2: seed %d: %x, not %x", seed, out, c.all[from:])
			}
			if !marked && !d.Whole() {
				t.Fatalf("P8.3: seed %d: not whole", seed)
			}
		}
	}
}

// TestBeginBehindAnEnd: whatever became of the range decoder ahead, the new one tells what it has.
func TestBeginBehindAnEnd(t *testing.T) {
	for what, end := range map[string]func(d *lzma.Decoder){
		"a missing byte": func(d *lzma.Decoder) { d.Begin(&tape{}); d.Next() },
		"Finish":         func(d *lzma.Decoder) { d.Begin(&tape{b: make([]byte, 5)}); d.Finish() },
		"a match":        func(d *lzma.Decoder) { d.Begin(&tape{b: matched(9)}); draw(d, 3) },
	} {
		d, _ := made(t, usual, 100)
		end(d)
		d.Reset(usual)
		d.Empty()
		b, told := coded(usual, literals("abc")...)
		d.Begin(&tape{b: b})
		if out := draw(d, 3); !bytes.Equal(out, told) || !d.Finish() {
			t.Errorf("P8.2: behind %s: %q", what, out)
		}
	}
}

// matched: a stream of a literal, and a match of so many bytes.
func matched(n int) []byte {
	b, _ := coded(usual, literals("a")[0], match(n, 0))
	return b
}

// TestNothingIsReadAhead: behind each byte the source was asked just as often as the range decoder must.
func TestNothingIsReadAhead(t *testing.T) {
	for seed := range int64(100) {
		r := rand.New(rand.NewSource(seed))
		p := anySetting(r)
		b, told := anyStream(r, p, r.Intn(60))
		one, two := &tape{b: b}, &tape{b: b}
		d, _ := made(t, p, len(told))
		w := newTwin(p, len(told))
		d.Begin(one)
		w.begin(two)
		for i := range told {
			x, ok := d.Next()
			y, _ := w.next()
			if x != y || x != told[i] || !ok || one.asked != two.asked {
				t.Fatalf("P8.2: seed %d: byte %d: %d, %v, not %d; %d bytes were asked for, not %d", seed, i, x, ok, told[i], one.asked, two.asked)
			}
		}
	}
}

// TestWholeWithinAPacket: as long as a packet has bytes to tell, it isn't whole, nor does the stream end.
func TestWholeWithinAPacket(t *testing.T) {
	b := matched(6)
	for n := range 8 {
		d, _ := made(t, usual, 100)
		d.Begin(&tape{b: b})
		draw(d, n)
		if d.Whole() != (n == 7) || d.Whole() != (n == 7) {
			t.Errorf("P8.3: whole behind %d bytes of 7: %v", n, d.Whole())
		}
		if d.Finish() != (n == 7) {
			t.Errorf("P8.3: the stream ends behind %d bytes of 7, or not behind all", n)
		}
		silent(t, "P8.3", "behind Finish", d)
	}
}

// TestFinish: bytes that are left, an end mark that is bad or not whole, and other packets.
func TestFinish(t *testing.T) {
	text := literals("abc")
	plain, _ := coded(usual, text...)
	marked, _ := coded(usual, append(text, end())...)
	more, _ := coded(usual, append(text, text...)...)
	copies, _ := coded(usual, append(text, match(2, 1))...)
	bad, _ := coded(usual, append(text, match(2, 3))...)
	for _, e := range []struct {
		what string
		b    []byte
		ends bool
	}{
		{"just the bytes", plain, true},
		{"an end mark", marked, true},
		{"a byte more", append(bytes.Clone(plain), 0), false},
		{"a byte more, not 0", append(bytes.Clone(plain), 1), false},
		{"an end mark, a byte more", append(bytes.Clone(marked), 0), false},
		{"an end mark twice", append(bytes.Clone(marked), marked...), false},
		{"an end mark cut", marked[:len(marked)-1], false},
		{"an end mark with another code", turned(marked, len(marked)-1), false},
		{"literals", more, false},
		{"a copy", copies, false},
		{"a bad copy", bad, false},
		{"half of an end mark", marked[:len(marked)-3], false},
	} {
		d, _ := made(t, usual, 100)
		d.Begin(&tape{b: e.b})
		if out := draw(d, 3); string(out) != "abc" {
			t.Fatalf("P8.2: %s: %q", e.what, out)
		}
		if d.Finish() != e.ends {
			t.Errorf("P8.3: %s: it ends: %v", e.what, !e.ends)
		}
		silent(t, "P8.3", "behind Finish", d)
		if d.Whole() || d.Finish() {
			t.Errorf("P8.3: %s: it ends twice", e.what)
		}
	}
}

// turned: bytes of which one is another one.
func turned(b []byte, at int) []byte {
	b = bytes.Clone(b)
	b[at] ^= 0xff
	return b
}

// TestPut: such bytes are there to be copied, are the last byte ahead of a literal, and move the place.
func TestPut(t *testing.T) {
	for _, p := range settings(4096) {
		d, _ := made(t, p, 1<<16)
		c := newCoder(p, 1<<16)
		for i := range 40 {
			for range i % 7 {
				d.Put(byte(37 * i))
				c.put(byte(37 * i))
			}
			from := len(c.all)
			c.code(api.Packet{Kind: api.Literal, Byte: byte(i)})
			c.code(match(2+i%20, uint32(i%len(c.all))))
			c.code(api.Packet{Kind: api.Literal, Byte: byte(37 * i)})
			d.Begin(&tape{b: c.c.Finish()})
			if out := draw(d, len(c.all)-from); !bytes.Equal(out, c.all[from:]) || !d.Whole() {
				t.Fatalf("P8.4: %+v: %x, not %x", p, out, c.all[from:])
			}
		}
	}
}

// TestReset: what comes behind it is told as by a new decoder that had the same bytes put.
func TestReset(t *testing.T) {
	for seed := range int64(150) {
		r := rand.New(rand.NewSource(seed))
		p := anySetting(r)
		d, m := made(t, p, 1<<16)
		c := newCoder(p, 1<<16)
		used := m.Used()
		for range 4 {
			from := len(c.all)
			for range r.Intn(40) {
				c.code(c.random(r))
			}
			d.Begin(&tape{b: c.c.Finish()})
			if out := draw(d, len(c.all)-from); !bytes.Equal(out, c.all[from:]) || !d.Whole() {
				t.Fatalf("P8.4: seed %d: %x, not %x", seed, out, c.all[from:])
			}
			q := lesser(r, p)
			d.Reset(q)
			c.reset(q)
		}
		if m.Used() != used {
			t.Fatalf("P8.4: seed %d: used %+v, not %+v", seed, m.Used(), used)
		}
	}
}

// lesser: a setting with no more probabilities than p has, and any dictionary.
func lesser(r *rand.Rand, p api.Lzma) api.Lzma {
	for {
		q := anySetting(r)
		if q.Lc+q.Lp <= p.Lc+p.Lp {
			q.Dict = []int{4096, 1 << 20, math.MaxUint32}[r.Intn(3)]
			return q
		}
	}
}

// TestResetKeepsTheDictionary: New's stays, whatever p says.
func TestResetKeepsTheDictionary(t *testing.T) {
	for _, dicts := range [][2]int{{5000, 4096}, {4096, 5000}} {
		for dist := range 5001 {
			if dist%499 > 1 && dist%4096 > 1 && dist != 5000 {
				continue
			}
			p, q := usual, usual
			p.Dict, q.Dict = dicts[0], dicts[1]
			d, _ := made(t, p, 1<<20)
			c := newCoder(p, 1<<20)
			for i := range 6000 {
				d.Put(byte(i))
				c.put(byte(i))
			}
			d.Reset(q)
			c.reset(q)
			c.code(match(2, uint32(dist)))
			d.Begin(&tape{b: c.c.Finish()})
			if out := draw(d, 2); (len(out) == 2) != (dist < p.Dict) {
				t.Errorf("P8.4: dictionaries %v, distance %d: %x", dicts, dist, out)
			}
		}
	}
}

// TestResetByWhatMayNotBe: callers see to it that none comes; if one does, nothing begins anew.
func TestResetByWhatMayNotBe(t *testing.T) {
	b, told := coded(usual, append(literals("abcabd"), match(9, 2), literals("x")[0])...)
	for _, q := range append(wrongSettings(), api.Lzma{Lc: 4, Dict: 4096}, api.Lzma{Lc: 8, Lp: 4, Pb: 4, Dict: 4096}) {
		if q.Lc >= 0 && q.Lp >= 0 && q.Lc+q.Lp <= 3 && q.Pb >= 0 && q.Pb <= 4 {
			continue // just its Dict may not be, which isn't taken
		}
		d, _ := made(t, usual, 100)
		d.Begin(&tape{b: b})
		out := draw(d, 8)
		d.Reset(q)
		if out = append(out, draw(d, 8)...); !bytes.Equal(out, told) || !d.Finish() {
			t.Errorf("P8.4: %+v: %q, not %q", q, out, told)
		}
	}
}

// TestEmpty: nothing is there to be copied, no byte is the last one, and the place is 0; state, distances and probabilities stay.
func TestEmpty(t *testing.T) {
	for seed := range int64(150) {
		r := rand.New(rand.NewSource(seed))
		p := anySetting(r)
		d, m := made(t, p, 1<<16)
		c := newCoder(p, 1<<16)
		used := m.Used()
		for range 4 {
			d.Empty()
			c.all = nil
			for range r.Intn(60) {
				c.code(c.random(r))
			}
			d.Begin(&tape{b: c.c.Finish()})
			if out := draw(d, len(c.all)); !bytes.Equal(out, c.all) || !d.Whole() {
				t.Fatalf("P8.4: seed %d: %x, not %x", seed, out, c.all)
			}
		}
		if m.Used() != used {
			t.Fatalf("P8.4: seed %d: used %+v, not %+v", seed, m.Used(), used)
		}
	}
}

// TestEmptyWithinAPacket: the packet's bytes aren't there any more; what isn't there isn't told.
func TestEmptyWithinAPacket(t *testing.T) {
	d, _ := made(t, usual, 100)
	d.Begin(&tape{b: matched(9)})
	if out := draw(d, 4); string(out) != "aaaa" {
		t.Fatalf("P8.2: %q", out)
	}
	d.Empty()
	silent(t, "P8.6", "within a packet, with nothing in the window", d)
	if d.Whole() || d.Finish() {
		t.Error("P8.3: it ends within a packet")
	}
}

// TestClose: the memory is given back, once, and not that of others; nothing is told, put or begun.
func TestClose(t *testing.T) {
	for _, begun := range []bool{false, true} {
		for _, n := range []int{0, 1, 3, 100} {
			d, m := made(t, usual, 50)
			m.Mem(1000)
			if begun {
				d.Begin(&tape{b: matched(9)})
				draw(d, n)
			}
			for range 3 {
				d.Close()
				if m.Used() != (api.Used{Mem: 1000, Peak: 1000 + asked(usual, 50)}) {
					t.Fatalf("P8.4: used %+v", m.Used())
				}
				behindClose(t, d)
			}
		}
	}
}

func behindClose(t *testing.T, d *lzma.Decoder) {
	t.Helper()
	for range 2 {
		silent(t, "P8.2", "behind Close", d)
		if d.Whole() || d.Finish() {
			t.Error("P8.3: a stream ends behind Close")
		}
		d.Put('a')
		d.Empty()
		d.Reset(usual)
		d.Put('b')
		d.Begin(&tape{b: matched(2)})
	}
}

// TestCloseWithASpentMeter: it is given back to such a one, too; and a decoder goes on though its meter is spent.
func TestCloseWithASpentMeter(t *testing.T) {
	d, m := made(t, usual, 50)
	m.Mem(room)
	d.Begin(&tape{b: matched(9)})
	if out := draw(d, 10); string(out) != "aaaaaaaaaa" || !d.Finish() {
		t.Errorf("P8.2: %q", out)
	}
	d.Close()
	if m.Used() != (api.Used{Peak: asked(usual, 50)}) || m.Code() != api.QMem {
		t.Errorf("P8.4: used %+v, code %d", m.Used(), m.Code())
	}
}

// TestMemoryIsThereAgain: what one decoder gave back the next one may have; it has none of the other one's.
func TestMemoryIsThereAgain(t *testing.T) {
	m := meterOf(asked(usual, 1000))
	b, told := coded(usual, append(literals("hello"), match(100, 3), again(api.Again2, 5))...)
	for range 20 {
		d, code := lzma.New(usual, 1000, m)
		if code != api.OK {
			t.Fatalf("P8.4: code %d, used %+v", code, m.Used())
		}
		d.Begin(&tape{b: b})
		if out := draw(d, len(told)); !bytes.Equal(out, told) || !d.Finish() {
			t.Fatalf("P8.2: %q", out)
		}
		d.Close()
	}
}

// TestTwoDecoders: what one is given doesn't matter to the other, nor does its end.
func TestTwoDecoders(t *testing.T) {
	r := rand.New(rand.NewSource(3))
	p, q := anySetting(r), anySetting(r)
	a, tellsA := anyStream(r, p, 100)
	b, tellsB := anyStream(r, q, 100)
	one, _ := made(t, p, len(tellsA))
	two, _ := made(t, q, len(tellsB))
	one.Begin(&tape{b: a})
	two.Begin(&tape{b: b})
	for i := range min(len(tellsA), len(tellsB)) {
		x, _ := one.Next()
		y, _ := two.Next()
		if x != tellsA[i] || y != tellsB[i] {
			t.Fatalf("P8.2: byte %d of two decoders", i)
		}
		if i == 50 {
			one.Close()
			tellsA = make([]byte, len(tellsA))
		}
	}
}
