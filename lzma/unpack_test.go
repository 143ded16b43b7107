package lzma_test

import (
	"bytes"
	"math"
	"math/rand"
	"testing"

	"garbler/api"
	"garbler/lzma"
)

// unpacked holds Unpack against what was to come, and looks whether its memory is given back.
func unpacked(t *testing.T, promise string, b []byte, p api.Lzma, size int, want []byte, ok bool) {
	t.Helper()
	m := much()
	was := bytes.Clone(b)
	out, code := lzma.Unpack(b, p, size, m)
	wanted := api.OK
	if !ok {
		want, wanted = nil, api.Data
	}
	if !bytes.Equal(out, want) || code != wanted {
		t.Fatalf("%s: %x, %+v, size %d: %x, code %d; not %x, code %d", promise, b, p, size, out, code, want, wanted)
	}
	if m.Used() != (api.Used{Peak: asked(p, size)}) || m.Code() != api.OK {
		t.Fatalf("P8.5: %x, %+v, size %d: used %+v", b, p, size, m.Used())
	}
	if !bytes.Equal(b, was) {
		t.Fatalf("P8.5: what was handed in is %x, was %x", b, was)
	}
}

func TestExamplesOfUnpack(t *testing.T) {
	unpacked(t, "P8.5", make([]byte, 5), usual, 0, nil, true)
	unpacked(t, "P8.5", make([]byte, 5), usual, 1, nil, false)
	unpacked(t, "P8.5", make([]byte, 6), usual, 1, []byte{0}, true)
	unpacked(t, "P8.5", make([]byte, 6), usual, 0, nil, false)
	unpacked(t, "P8.5", nil, usual, 0, nil, false)
}

// TestSizes: just one is that of a stream, with or without an end mark; below 0 counts as 0.
func TestSizes(t *testing.T) {
	for _, list := range [][]api.Packet{nil, literals("a"), append(literals("abc"), match(20, 1), again(api.Again2, 6)), append(literals("ab"), again(api.Again0, 273))} {
		for _, list := range [][]api.Packet{list, append(list[:len(list):len(list)], end())} {
			b, told := coded(usual, list...)
			for size := -3; size < len(told)+20; size++ {
				unpacked(t, "P8.5", b, usual, size, told, max(size, 0) == len(told))
			}
			unpacked(t, "P8.5", b, usual, math.MinInt, told, len(told) == 0)
			unpacked(t, "P8.5", b, usual, 1<<32, nil, false)
			unpacked(t, "P8.5", b, usual, math.MaxInt, nil, false)
		}
	}
}

// TestQuotas: as much as New asks for is enough, one byte less isn't; then nothing is told, and nothing stays used.
func TestQuotas(t *testing.T) {
	b, told := coded(usual, append(literals("abc"), match(20, 1))...)
	for _, size := range []int{-1, 0, 1, len(told), 4096, 1 << 20} {
		m := meterOf(asked(usual, size) - 1)
		if out, code := lzma.Unpack(b, usual, size, m); len(out) != 0 || code != api.QMem || m.Used().Mem != 0 {
			t.Errorf("P8.5: size %d: %x, code %d, used %+v", size, out, code, m.Used())
		}
	}
	m := meterOf(asked(usual, len(told)))
	for range 3 {
		if out, code := lzma.Unpack(b, usual, len(told), m); !bytes.Equal(out, told) || code != api.OK || m.Used().Mem != 0 {
			t.Errorf("P8.5: %x, code %d, used %+v", out, code, m.Used())
		}
	}
}

// TestAnswersShareNothing: what was told before isn't written over.
func TestAnswersShareNothing(t *testing.T) {
	b, told := coded(usual, literals("abc")...)
	one, _ := lzma.Unpack(b, usual, 3, much())
	_ = append(one, 9, 9, 9)
	one[0] = 'x'
	two, _ := lzma.Unpack(b, usual, 3, much())
	if string(one) != "xbc" || !bytes.Equal(two, told) {
		t.Errorf("P8.5: %q, %q", one, two)
	}
}

// TestAnyStream: packets of all kinds by any setting are told as they were coded, and end there.
func TestAnyStream(t *testing.T) {
	for seed := range int64(600) {
		r := rand.New(rand.NewSource(seed))
		p := anySetting(r)
		b, told := anyStream(r, p, r.Intn(200))
		unpacked(t, "P8.5", b, p, len(told), told, true)
		unpacked(t, "P8.5", append(b, 0), p, len(told), nil, false)
		unpacked(t, "P8.5", b[:len(b)-1], p, len(told), nil, false)
	}
}

// TestEachSetting: its place's bits and its literals' ones, with a dictionary that is less than what is told.
func TestEachSetting(t *testing.T) {
	for i, p := range settings(4096) {
		r := rand.New(rand.NewSource(int64(i)))
		b, told := anyStream(r, p, 300)
		unpacked(t, "P8.5", b, p, len(told), told, true)
	}
}

// TestLesserDictionaries: a stream whose distances go beyond one is bad, there and just there.
func TestLesserDictionaries(t *testing.T) {
	r := rand.New(rand.NewSource(8))
	text := make([]byte, 6000)
	r.Read(text)
	list := literals(string(text))
	for _, dist := range []int{4094, 4095, 4096, 4097, 5998, 5999} {
		b, told := coded(api.Lzma{Lc: 3, Pb: 2, Dict: 1 << 16}, append(list[:len(list):len(list)], match(5, uint32(dist)))...)
		for _, dict := range []int{4096, 4097, 4098, 5999, 6000, 1 << 16} {
			p := api.Lzma{Lc: 3, Pb: 2, Dict: dict}
			unpacked(t, "P8.5", b, p, len(told), told, dist < dict)
		}
	}
}

// TestCutStreams: no beginning of a stream is one, but the whole.
func TestCutStreams(t *testing.T) {
	for seed := range int64(20) {
		r := rand.New(rand.NewSource(seed))
		p := anySetting(r)
		b, told := anyStream(r, p, 40)
		for n := range b {
			unpacked(t, "P8.5", b[:n], p, len(told), nil, false)
		}
	}
}

// TestAnyBytesAreAsTheModelSays: streams with turned, missing and other bytes, and bytes that are none.
func TestAnyBytesAreAsTheModelSays(t *testing.T) {
	ends := map[bool]int{}
	for seed := range int64(6000) {
		r := rand.New(rand.NewSource(seed))
		p := anySetting(r)
		p.Lc, p.Lp = r.Intn(3), r.Intn(3) // fewer to begin
		b, told := anyStream(r, p, r.Intn(40))
		for range r.Intn(3) {
			b[r.Intn(len(b))] = byte(r.Intn(256))
		}
		if r.Intn(8) == 0 {
			r.Read(b[1:])
		}
		if r.Intn(8) == 0 {
			b = append(b, byte(-r.Intn(2)))
		}
		size := len(told)
		if r.Intn(4) == 0 {
			size = r.Intn(2*size + 2)
		}
		want, ok := modelUnpack(b, p, size)
		ends[ok]++
		unpacked(t, "P8.6", b, p, size, want, ok)
	}
	if ends[true] < 300 || ends[false] < 300 {
		t.Errorf("%v: too few of a kind", ends)
	}
}

// TestAnyCallsAreAsTheModelSays: calls in any order, on streams that fit at first, and don't any more behind them.
func TestAnyCallsAreAsTheModelSays(t *testing.T) {
	told := 0
	for seed := range int64(3000) {
		r := rand.New(rand.NewSource(seed))
		p := anySetting(r)
		p.Lc, p.Lp = r.Intn(3), r.Intn(3)
		size := r.Intn(1 << r.Intn(13))
		d, m := made(t, p, size)
		w := newTwin(p, size)
		for i := range 150 {
			told += sameCall(t, r, d, w, p, seed, i)
		}
		d.Close()
		if m.Used().Mem != 0 {
			t.Fatalf("P8.4: seed %d: used %+v", seed, m.Used())
		}
	}
	if told < 20000 {
		t.Errorf("just %d bytes were told", told)
	}
}

// sameCall makes one call of a decoder, and of its twin: how many bytes it told.
func sameCall(t *testing.T, r *rand.Rand, d *lzma.Decoder, w *twin, p api.Lzma, seed int64, i int) int {
	t.Helper()
	switch k := r.Intn(1000); {
	case k < 40 || i == 0:
		if w.bad { // how far it was read isn't said
			d.Reset(p)
			w.reset(p)
		}
		b := goesOn(r, w, p)
		d.Begin(&tape{b: b})
		w.begin(&tape{b: b})
	case k < 60:
		d.Put(byte(k))
		if !w.closed {
			w.put(byte(k))
		}
	case k < 70:
		q := lesser(r, p)
		d.Reset(q)
		w.reset(q)
	case k < 75:
		d.Empty()
		w.all = nil
	case k < 85:
		if a, b := d.Finish(), w.finish(); a != b {
			t.Fatalf("P8.3: seed %d, call %d: Finish is %v, not %v", seed, i, a, b)
		}
	case k < 86:
		d.Close()
		w.closed, w.all = true, nil
	default:
		x, okX := d.Next()
		y, okY := w.next()
		if x != y || okX != okY {
			t.Fatalf("P8.2: seed %d, call %d: %d, %v is told; not %d, %v", seed, i, x, okX, y, okY)
		}
		if d.Whole() != w.whole() {
			t.Fatalf("P8.3: seed %d, call %d: whole is %v", seed, i, d.Whole())
		}
		if okX {
			return 1
		}
	}
	return 0
}

// goesOn: a stream that fits what the twin has now, or one that mostly doesn't.
func goesOn(r *rand.Rand, w *twin, p api.Lzma) []byte {
	c := newCoder(p, w.size)
	if r.Intn(4) > 0 {
		c.p, c.state, c.reps = w.p, w.state, w.reps
		c.all = bytes.Clone(w.all)
		for k, row := range w.rows {
			c.rows[k] = append([]uint16{}, row...)
		}
	}
	for range r.Intn(12) {
		c.code(c.random(r))
	}
	if r.Intn(4) == 0 {
		c.code(end())
	}
	return c.c.Finish()
}

// TestWhatStandsBehindDoesNotMatter: to the bytes that a stream tells, and to whether it is whole.
func TestWhatStandsBehindDoesNotMatter(t *testing.T) {
	for seed := range int64(200) {
		r := rand.New(rand.NewSource(seed))
		p := anySetting(r)
		b, told := anyStream(r, p, r.Intn(60))
		d, _ := made(t, p, len(told))
		e, _ := made(t, p, len(told))
		behind := make([]byte, 1+r.Intn(30))
		r.Read(behind)
		d.Begin(&tape{b: b})
		e.Begin(&tape{b: append(bytes.Clone(b), behind...)})
		for i := range told {
			x, _ := d.Next()
			y, _ := e.Next()
			if x != told[i] || y != told[i] || d.Whole() != e.Whole() {
				t.Fatalf("P8.6: seed %d: byte %d: %d, %d", seed, i, x, y)
			}
		}
		if !d.Finish() || e.Finish() {
			t.Fatalf("P8.3: seed %d: bytes behind the stream", seed)
		}
	}
}

// TestNothingElseIsTold: by any bytes, what is told is a literal, or what was told at a distance within the window, as the model's packets name it; a packet that is bad is read no further than to where it is.
func TestNothingElseIsTold(t *testing.T) {
	for seed := range int64(2000) {
		r := rand.New(rand.NewSource(seed))
		p := anySetting(r)
		p.Lc, p.Lp = r.Intn(3), r.Intn(3)
		b := make([]byte, 5+r.Intn(60))
		r.Read(b[1:])
		for range r.Intn(2) * len(b) {
			b[1+r.Intn(len(b)-1)] = byte(-r.Intn(2))
		}
		d, _ := made(t, p, 1000)
		w := newTwin(p, 1000)
		one, two := &tape{b: b}, &tape{b: b}
		d.Begin(one)
		w.begin(two)
		for i := range 5000 {
			x, ok := d.Next()
			y, want := w.next()
			if x != y || ok != want || one.asked != two.asked {
				t.Fatalf("P8.6: %x, %+v: byte %d is %d, %v; not %d, %v; %d bytes were asked for, not %d", b, p, i, x, ok, y, want, one.asked, two.asked)
			}
			if !ok {
				break
			}
		}
	}
}
