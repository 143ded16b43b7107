package lzma2_test

import (
	"bytes"
	"math"
	"math/rand"
	"testing"

	"garbler/api"
	"garbler/lzma2"
	"garbler/meter"
)

// TestMemoryIsAskedFor: just as much as said, whether the meter has it, or one byte more, or one fewer, or enough for one part of it.
func TestMemoryIsAskedFor(t *testing.T) {
	for p, dict := range dicts() {
		p := byte(p)
		for _, size := range []int{math.MinInt, -1, 0, 1, 2, 4095, 4096, 4097, 6144, 6145, 1 << 20, math.MaxUint32 - 1, math.MaxUint32, 1 << 32, math.MaxInt} {
			want := max(1, min(dict, size)) + probs
			if want != askedOfLzma(dict, size) {
				t.Fatalf("layer 8 asks for %d, not %d", askedOfLzma(dict, size), want)
			}
			for _, have := range []int{want, want + 1, math.MaxInt} {
				m := meterOf(have)
				d, code := lzma2.New(p, size, m)
				if d == nil || code != api.OK || m.Code() != api.OK || m.Used() != (api.Used{Mem: want, Peak: want}) {
					t.Fatalf("P11.2: property %d, size %d of %d bytes: code %d, used %+v", p, size, have, code, m.Used())
				}
			}
			for _, have := range []int{want - 1, want - probs, probs, 1, 0, -1} {
				m := meterOf(have)
				d, code := lzma2.New(p, size, m)
				if d != nil || code != api.QMem || m.Used().Mem != 0 || m.Code() != api.QMem {
					t.Fatalf("P11.2: property %d, size %d of %d bytes: code %d, used %+v", p, size, have, code, m.Used())
				}
			}
		}
	}
}

// TestMemoryIsGivenBackOnce: what the meter gave to others stays theirs.
func TestMemoryIsGivenBackOnce(t *testing.T) {
	m := meterOf(room)
	m.Mem(1000)
	d, _ := lzma2.New(0, 100, m)
	e, _ := lzma2.New(3, 5000, m)
	both := asked(0, 100) + asked(3, 5000)
	if m.Used().Mem != 1000+both {
		t.Fatalf("P11.2: used %+v", m.Used())
	}
	for range 3 {
		d.Close()
		if m.Used() != (api.Used{Mem: 1000 + asked(3, 5000), Peak: 1000 + both}) {
			t.Fatalf("P11.2: behind Close: used %+v", m.Used())
		}
	}
	k := newCoder(4096).packed(allAnew, usual, append(literals("abc"), match(20, 2))...)
	e.Begin(&tape{b: k.stream()})
	if out := draw(e, 30); !bytes.Equal(out, k.told) || !e.Finish() {
		t.Errorf("P11.2: %q, not %q", out, k.told)
	}
	e.Close()
	d.Close()
	if m.Used().Mem != 1000 {
		t.Errorf("P11.2: behind Close: used %+v", m.Used())
	}
}

func TestMeterThatIsSpent(t *testing.T) {
	for _, code := range []api.Code{api.QMem, api.QOut, api.QFiles, api.QDepth, api.QSteps} {
		m := spent(code)
		if d, got := lzma2.New(0, 1, m); d != nil || got != code || m.Used().Mem != 0 {
			t.Errorf("P11.2: spent by %d: code %d", code, got)
		}
		if b, got := lzma2.Unpack([]byte{0}, 0, 0, m); len(b) != 0 || got != code || m.Used().Mem != 0 {
			t.Errorf("P11.4: spent by %d: %x, code %d", code, b, got)
		}
	}
}

// TestWrongProperties: Props comes ahead of a meter's code, and the meter isn't asked.
func TestWrongProperties(t *testing.T) {
	for p := 41; p < 256; p++ {
		for _, m := range []*meter.Meter{much(), meter.New(api.Quota{}), spent(api.QSteps)} {
			was, code := m.Used(), m.Code()
			if d, got := lzma2.New(byte(p), 10, m); d != nil || got != api.Props {
				t.Errorf("P11.2: property %d: code %d", p, got)
			}
			if b, got := lzma2.Unpack([]byte{0}, byte(p), 0, m); len(b) != 0 || got != api.Props {
				t.Errorf("P11.4: property %d: %x, code %d", p, b, got)
			}
			if m.Used() != was || m.Code() != code {
				t.Errorf("P11.2: property %d: used %+v, code %d", p, m.Used(), m.Code())
			}
		}
	}
}

func TestAheadOfBegin(t *testing.T) {
	d, _ := made(t, 0, 100)
	silent(t, "P11.2", "ahead of Begin", d)
	if d.Finish() || d.Finish() {
		t.Error("P11.3: a stream ends ahead of Begin")
	}
	silent(t, "P11.2", "ahead of Begin", d)
	d.Begin(&tape{b: []byte{1, 0, 1, 'a', 'b', 0}})
	if out := draw(d, 100); string(out) != "ab" || !d.Finish() {
		t.Errorf("P11.2: %q", out)
	}
}

// TestNoSource: it has no byte.
func TestNoSource(t *testing.T) {
	d, _ := made(t, 0, 100)
	d.Begin(nil)
	silent(t, "P11.2", "of no source", d)
	if d.Finish() {
		t.Error("P11.3: no source ends")
	}
}

// TestBeginAnew: a new stream is told as it is, wherever the one ahead was left.
func TestBeginAnew(t *testing.T) {
	k := newCoder(4096).plain(plainAnew, "abc").packed(newProps, usual, append(literals("xyz"), match(20, 4))...).plain(plain, "def").packed(goesOn, usual, again(0, 9), again(0, 9))
	left := map[string]func(*lzma2.Decoder){
		"ahead of it":            func(d *lzma2.Decoder) {},
		"in a plain chunk":       func(d *lzma2.Decoder) { draw(d, 2) },
		"behind a plain chunk":   func(d *lzma2.Decoder) { draw(d, 3) },
		"in a packed chunk":      func(d *lzma2.Decoder) { draw(d, 5) },
		"in a packet":            func(d *lzma2.Decoder) { draw(d, 10) },
		"behind a packed chunk":  func(d *lzma2.Decoder) { draw(d, 26) },
		"at its end":             func(d *lzma2.Decoder) { draw(d, len(k.told)) },
		"behind its end":         func(d *lzma2.Decoder) { draw(d, len(k.told)+1) },
		"finished":               func(d *lzma2.Decoder) { draw(d, len(k.told)); d.Finish() },
		"finished too early":     func(d *lzma2.Decoder) { draw(d, 10); d.Finish() },
		"finished in its chunks": func(d *lzma2.Decoder) { draw(d, 3); d.Finish() },
	}
	for where, leave := range left {
		d, _ := made(t, 0, 100)
		for range 2 {
			d.Begin(&tape{b: k.stream()})
			leave(d)
		}
		d.Begin(&tape{b: k.stream()})
		if out := draw(d, len(k.told)); !bytes.Equal(out, k.told) || !d.Finish() {
			t.Errorf("P11.2: left %s: %q, not %q", where, out, k.told)
		}
		d.Begin(&tape{b: []byte{0}})
		silent(t, "P11.2", "of an empty stream", d)
		if !d.Finish() {
			t.Errorf("P11.3: left %s: an empty stream doesn't end", where)
		}
	}
}

// TestBeginNeedsAll: nothing of the stream ahead counts for a new one: its first chunk must bring all.
func TestBeginNeedsAll(t *testing.T) {
	k := newCoder(4096).packed(allAnew, usual, literals("abc")...)
	for _, c := range []byte{plain, goesOn, newState, newProps} {
		for n := range 5 {
			d, _ := made(t, 0, 100)
			d.Begin(&tape{b: k.stream()})
			draw(d, n)
			l := newCoder(4096)
			l.c.Put([]byte("abc"))
			l.c.Reset(usual)
			if c == plain {
				l.plain(c, "def")
			} else {
				l.packed(c, usual, literals("def")...)
			}
			d.Begin(&tape{b: l.stream()})
			silent(t, "P11.2", "a first chunk that needs one ahead", d)
		}
	}
	d, _ := made(t, 0, 100)
	d.Begin(&tape{b: k.stream()})
	draw(d, 3)
	l := newCoder(4096)
	l.c.Put([]byte("abc")) // that the coder takes the copy: the decoder's window is empty
	l.c.Code(match(2, 1))
	b := l.c.Finish()
	d.Begin(&tape{b: append(packedHead(allAnew, 2, len(b), usual), b...)})
	silent(t, "P11.2", "a copy of the stream ahead", d)
}

func TestBehindClose(t *testing.T) {
	for _, begun := range []bool{false, true} {
		for n := range 8 {
			d, m := made(t, 0, 100)
			if begun {
				d.Begin(&tape{b: []byte{1, 0, 2, 'a', 'b', 'c', 2, 0, 1, 'd', 'e', 0}})
				draw(d, n)
			}
			d.Close()
			silent(t, "P11.2", "behind Close", d)
			if d.Finish() {
				t.Error("P11.3: a stream ends behind Close")
			}
			d.Begin(&tape{b: []byte{1, 0, 1, 'a', 'b', 0}})
			silent(t, "P11.2", "begun behind Close", d)
			d.Close()
			if d.Finish() || m.Used().Mem != 0 {
				t.Errorf("P11.2: behind Close: used %+v", m.Used())
			}
		}
	}
}

// TestFinish: at each place of a stream: true behind its last byte alone, whether the byte 0 was read by Next or not; once.
func TestFinish(t *testing.T) {
	k := newCoder(4096).plain(plainAnew, "ab").packed(newProps, usual, literals("cd")...).packed(goesOn, usual, match(4, 1)).plain(plain, "x")
	for n := range len(k.told) + 4 {
		for _, e := range []struct {
			behind string
			ends   bool
		}{{"\x00", true}, {"", false}, {"\x00\x00", false}, {"\x00\x01", false}, {"\x03", false}, {"\x01", false}, {"\x02\x00\x00y", false}} {
			d, _ := made(t, 0, 100)
			d.Begin(&tape{b: append(bytes.Clone(k.out), e.behind...)})
			out := draw(d, n)
			if !bytes.HasPrefix(append(bytes.Clone(k.told), 'y'), out) || len(out) < min(n, len(k.told)) {
				t.Fatalf("P11.2: %q", out)
			}
			if ends := d.Finish(); ends != (e.ends && n >= len(k.told)) {
				t.Errorf("P11.3: behind %d bytes, %x behind the chunks: ends: %v", n, e.behind, ends)
			}
			silent(t, "P11.3", "behind Finish", d)
			if d.Finish() {
				t.Error("P11.3: it ends twice")
			}
			silent(t, "P11.3", "behind Finish", d)
		}
	}
}

// TestEndOnce: the byte 0 is read, and nothing behind it, however often it is asked.
func TestEndOnce(t *testing.T) {
	d, _ := made(t, 0, 100)
	d.Begin(&tape{b: []byte{1, 0, 0, 'a', 0, 2, 0, 0, 'b', 0}})
	if out := draw(d, 9); string(out) != "a" {
		t.Errorf("P11.2: %q", out)
	}
	silent(t, "P11.2", "behind the byte 0", d)
	if d.Finish() {
		t.Error("P11.3: bytes stand behind the stream")
	}
}

// TestAnyCallsAreAsTheModelSays: calls in any order, of streams that are turned and cut, or not.
func TestAnyCallsAreAsTheModelSays(t *testing.T) {
	told, ends := 0, map[bool]int{}
	for seed := range int64(300) {
		r := rand.New(rand.NewSource(seed))
		p := byte(r.Intn(3))
		dict, _ := lzma2.Dict(p)
		size := r.Intn(1 << r.Intn(15))
		d, m := made(t, p, size)
		w := &twin{dict: dict, size: size}
		for i := range 200 {
			switch k := r.Intn(1000); {
			case k < 60 || i == 0:
				b := anyChunks(r, dict, r.Intn(4)).stream()
				if r.Intn(2) == 0 {
					b = turned(r, b)
				}
				d.Begin(&tape{b: b})
				w.begin(b)
			case k < 100:
				a, b := d.Finish(), w.finish()
				if a != b {
					t.Fatalf("P11.3: seed %d, call %d: Finish is %v, not %v", seed, i, a, b)
				}
				ends[a]++
			case k < 101:
				d.Close()
				w.close()
			default:
				for range r.Intn(1 + 5*r.Intn(400)) {
					x, okX := d.Next()
					y, okY := w.next()
					if x != y || okX != okY {
						t.Fatalf("P11.2: seed %d, call %d: %d, %v is told; not %d, %v", seed, i, x, okX, y, okY)
					}
					if okX {
						told++
					}
				}
			}
		}
		d.Close()
		if m.Used().Mem != 0 {
			t.Fatalf("P11.2: seed %d: used %+v", seed, m.Used())
		}
	}
	if told < 100000 || ends[true] < 100 || ends[false] < 100 {
		t.Errorf("%d bytes, %v: too few of a kind", told, ends)
	}
}

// turned: b with some other bytes, or without its end, or with more.
func turned(r *rand.Rand, b []byte) []byte {
	b = bytes.Clone(b)
	for range 1 + r.Intn(2) {
		switch at := r.Intn(len(b)); r.Intn(6) {
		case 0:
			b = append(b[:at], byte(r.Intn(256)))
		case 1:
			b = append(b, byte(r.Intn(3)))
		case 2:
			b[at] = []byte{0, 1, 2, 3, 0x80, 0xa0, 0xc0, 0xe0}[r.Intn(8)]
		default:
			b[at] = byte(r.Intn(256))
		}
	}
	return b
}
