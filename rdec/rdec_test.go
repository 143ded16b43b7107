package rdec_test

import (
	"bytes"
	"encoding/binary"
	"math"
	"math/rand"
	"slices"
	"testing"

	"garbler/api"
	"garbler/rdec"
)

// begun: a stream that begins with this code, and what comes behind.
func begun(code uint32, behind ...byte) []byte {
	return append(binary.BigEndian.AppendUint32([]byte{0}, code), behind...)
}

// check holds a decoder, and how often its source was asked, against what was to come.
func check(t *testing.T, promise, what string, d *rdec.Decoder, s *tape, bad, done bool, asked int) {
	t.Helper()
	if d.Bad() != bad || d.Done() != done {
		t.Errorf("P4.2: %s of %x: bad %v, done %v; not %v, %v", what, s.b, d.Bad(), d.Done(), bad, done)
	}
	if s.asked != asked {
		t.Errorf("%s: %s of %x: %d bytes were asked for, not %d", promise, what, s.b, s.asked, asked)
	}
}

func TestExamples(t *testing.T) {
	s := &tape{b: make([]byte, 5)}
	d, p := rdec.New(s), rdec.Fresh(256)
	check(t, "P4.1", "begin", d, s, false, true, 5)
	if d.Bit(&p[0]) != 0 || d.Tree(p, 2) != 0 || d.Reverse(p[4:], 2) != 0 || d.Straight(2) != 0 {
		t.Error("P4.1: bits of five bytes 0")
	}
	if p[0] != 1056 || p[1] != 1056 || p[2] != 1056 || p[3] != 1024 || p[5] != 1056 {
		t.Errorf("P4.1: probabilities behind bits 0: %v", p[:8])
	}
	check(t, "P4.3", "seven bits", d, s, false, true, 5)
	for _, b := range [][]byte{{1}, {0, 255, 255, 255, 255}} {
		s := &tape{b: b}
		check(t, "P4.1", "begin", rdec.New(s), s, true, false, len(b))
	}
}

func TestFresh(t *testing.T) {
	for _, n := range []int{0, 1, 2, 3, 255, 768, 1 << 16} {
		p := rdec.Fresh(n)
		if len(p) != n || slices.ContainsFunc(p, func(v uint16) bool { return v != 1024 }) {
			t.Errorf("P4.1: Fresh(%d): %v", n, p)
		}
	}
	for _, n := range []int{-1, -1 << 31, math.MinInt, 1 << 31, 1 << 47, math.MaxInt} {
		if p := rdec.Fresh(n); len(p) != 0 {
			t.Errorf("P4.1: Fresh(%d) has %d", n, len(p))
		}
	}
	p := rdec.Fresh(3)
	p[0] = 31
	_ = append(p[:1], 31)
	if q := rdec.Fresh(3); !slices.Equal(q, []uint16{1024, 1024, 1024}) {
		t.Errorf("P4.1: fresh ones share with others: %v", q)
	}
}

func TestBeginsWithAZero(t *testing.T) {
	for first := 1; first < 256; first++ {
		s := &tape{b: []byte{byte(first), 0, 0, 0, 0, 0}}
		check(t, "P4.1", "begin", rdec.New(s), s, true, false, 1)
	}
}

func TestBeginsWithTheCode(t *testing.T) {
	for _, code := range []uint32{0, 1, 255, 256, 1 << 16, 1 << 24, 1<<31 - 1, 1 << 31, 0xff000000, 0xfffeffff, 0xfffffeff, math.MaxUint32 - 1, math.MaxUint32} {
		s := &tape{b: begun(code, 0)}
		bad := code == math.MaxUint32
		check(t, "P4.1", "begin", rdec.New(s), s, bad, code == 0, 5)
	}
	s := &tape{b: begun(0x80000000)}
	if d := rdec.New(s); d.Straight(1) != 1 {
		t.Error("P4.1: the code's first byte is the greatest")
	}
}

func TestBeginsWithFiveBytes(t *testing.T) {
	for n := range 5 {
		s := &tape{b: make([]byte, n)}
		check(t, "P4.1", "begin", rdec.New(s), s, true, false, n+1)
	}
	if d := rdec.New(nil); !d.Bad() || d.Done() || d.Straight(3) != 0 {
		t.Error("P4.1: of no source")
	}
}

// TestBitAtItsBound: with every probability, codes at both sides of the bound, and at both ends.
func TestBitAtItsBound(t *testing.T) {
	for was := uint16(31); was <= 2017; was++ {
		bound := uint32(math.MaxUint32) / 2048 * uint32(was)
		for _, code := range []uint32{0, bound - 1, bound, math.MaxUint32 - 1} {
			s := &tape{b: begun(code)}
			d, p := rdec.New(s), was
			told, want, left, then := d.Bit(&p), 0, code, was+(2048-was)/32
			if code >= bound {
				want, left, then = 1, code-bound, was-was/32
			}
			if told != want || p != then || p < 31 || p > 2017 {
				t.Errorf("P4.1: %x with %d: %d, %d then; not %d, %d", code, was, told, p, want, then)
			}
			check(t, "P4.3", "a bit", d, s, false, left == 0, 5)
		}
	}
}

// TestNoProbabilities: nothing is promised of numbers that are no probabilities, but that calls end, and don't panic.
func TestNoProbabilities(t *testing.T) {
	for was := range 1 << 16 {
		d := rdec.New(&tape{b: begun(uint32(was)*65521, 1, 200, 3, 255, 0)})
		p := slices.Repeat([]uint16{uint16(was)}, 8)
		if v := d.Bit(&p[0]); v != 0 && v != 1 {
			t.Fatalf("a bit with %d: %d", was, v)
		}
		if v := d.Tree(p, 3); v < 0 || v > 7 {
			t.Fatalf("a tree with %d: %d", was, v)
		}
		if v := d.Reverse(p, 3); v < 0 || v > 7 {
			t.Fatalf("a reverse tree with %d: %d", was, v)
		}
	}
}

// path: the probabilities behind a tree of so many bits, of which the first one is the greatest of v; all of them were fresh.
func path(v, bits int) []uint16 {
	p, m := rdec.Fresh(1<<bits), 1
	for i := range bits {
		one := v >> (bits - 1 - i) & 1
		p[m] = uint16(1056 - 64*one)
		m = 2*m + one
	}
	return p
}

func turned(v, bits int) int {
	back := 0
	for i := range bits {
		back = 2*back + v>>i&1
	}
	return back
}

// TestTreesOfAllValues: fresh probabilities share the codes out nearly evenly, so that the middle of v's share tells v's bits, whatever they stand for.
func TestTreesOfAllValues(t *testing.T) {
	for bits := 1; bits <= 8; bits++ {
		for v := range 1 << bits {
			b := begun(uint32(2*v+1)<<(31-bits), 0)
			d, p := rdec.New(&tape{b: b}), rdec.Fresh(1<<bits)
			if told := d.Tree(p, bits); told != v || !slices.Equal(p, path(v, bits)) {
				t.Errorf("P4.1: a tree of %d bits: %d, not %d; %v", bits, told, v, p)
			}
			d, p = rdec.New(&tape{b: b}), rdec.Fresh(1<<bits)
			if told := d.Reverse(p, bits); told != turned(v, bits) || !slices.Equal(p, path(v, bits)) {
				t.Errorf("P4.1: a reverse tree of %d bits: %d, not %d; %v", bits, told, turned(v, bits), p)
			}
		}
	}
}

func TestStraight(t *testing.T) {
	for _, e := range []struct {
		b     []byte
		bits  int
		want  uint32
		asked int
	}{
		{begun(0), 0, 0, 5},
		{begun(0xfffffffe), 0, 0, 5},
		{begun(0x7ffffffe), 1, 0, 5},
		{begun(0x7fffffff), 1, 1, 5},
		{begun(0xfffffffd), 1, 1, 5},
		{begun(0xc0000000), 2, 3, 5},
		{begun(0x80000000), 2, 2, 5},
		{begun(0x55555555), 7, 0x2a, 5},
		{begun(0x55555555, 0), 8, 0x55, 6},
		{begun(0, 0, 0, 0, 0), 32, 0, 9},
		{begun(0xff, 0xff, 0xfe, 0, 9), 24, 0, 8},
		{begun(0xff, 0xff, 0xff, 0, 9), 24, 1, 8},
	} {
		s := &tape{b: e.b}
		d := rdec.New(s)
		if v := d.Straight(e.bits); v != e.want {
			t.Errorf("P4.1: %d bits straight of %x: %x, not %x", e.bits, e.b, v, e.want)
		}
		if d.Bad() || s.asked != e.asked {
			t.Errorf("P4.3: %d bits straight of %x: %d bytes were asked for, not %d", e.bits, e.b, s.asked, e.asked)
		}
	}
}

// TestStraightOfAllBits: rows of 0 to 32 bits, one behind the other, with nothing else in between.
func TestStraightOfAllBits(t *testing.T) {
	for bits := range 33 {
		for _, v := range []uint32{0, 1, 0x80000000, 0x12345678, 0xdeadbeef, 0x55555555, 0xaaaaaaaa, math.MaxUint32} {
			v = uint32(uint64(v) & (1<<bits - 1))
			list := slices.Repeat([]api.Ask{{Kind: straight, Bits: bits, Value: v}}, 9)
			told(t, "P4.1", list, coded(list), nil)
		}
	}
}

// told holds what a stream, with bytes behind it, tells against what was coded into it.
func told(t *testing.T, promise string, list []api.Ask, b, behind []byte) {
	t.Helper()
	s := &tape{b: append(bytes.Clone(b), behind...)}
	d, p := rdec.New(s), rdec.Fresh(room)
	for i, q := range list {
		if v := answer(d, q, p); v != q.Value {
			t.Fatalf("%s: %x and %x: question %d, %+v, is told %d", promise, b, behind, i, q, v)
		}
	}
	check(t, promise, "all questions", d, s, false, true, len(b))
}

// TestWhatIsCodedIsTold: and just its bytes are asked for, whatever stands behind them; the decoder is done then.
func TestWhatIsCodedIsTold(t *testing.T) {
	for seed := range int64(600) {
		r := rand.New(rand.NewSource(seed))
		list := questions(r, r.Intn(80))
		b := coded(list)
		told(t, "P4.1", list, b, nil)
		for _, behind := range [][]byte{{0}, {255, 255, 255, 255, 255, 255}, {byte(r.Intn(256)), 1}} {
			told(t, "P4.3", list, b, behind)
		}
	}
}

// TestProbabilitiesEnd: bits of one kind bring a probability to its end, where it stays.
func TestProbabilitiesEnd(t *testing.T) {
	for one, end := range []uint16{2017, 31} {
		list := slices.Repeat([]api.Ask{{Kind: bit, Value: uint32(one)}}, 1000)
		d, p := rdec.New(&tape{b: coded(list)}), rdec.Fresh(1)
		for i := range list {
			if d.Bit(&p[0]) != one || i > 500 && p[0] != end {
				t.Fatalf("P4.3: bit %d of %d: the probability is %d", i, one, p[0])
			}
		}
	}
}

// asModel asks a decoder and the model the same, of the same stream, and holds them against each other behind each question.
func asModel(t *testing.T, b []byte, list []api.Ask) bool {
	t.Helper()
	s := &tape{b: b}
	d, m := rdec.New(s), newModel(b)
	p, want := rdec.Fresh(room), rdec.Fresh(room)
	for i := range len(list) + 1 {
		if d.Bad() != m.bad || d.Done() != (!m.bad && m.code == 0) {
			t.Fatalf("P4.2: %x, %v: bad %v, done %v behind %d questions", b, list, d.Bad(), d.Done(), i)
		}
		if s.asked != m.asked {
			t.Fatalf("P4.3: %x, %v: %d bytes, not %d, were asked for behind %d questions", b, list, s.asked, m.asked, i)
		}
		if !slices.Equal(p, want) {
			t.Fatalf("P4.1: %x, %v: probabilities behind %d questions", b, list, i)
		}
		if i == len(list) {
			break
		}
		if got, want := answer(d, list[i], p), m.answer(list[i], want); got != want {
			t.Fatalf("P4.1: %x, %v: question %d is told %d, not %d", b, list, i, got, want)
		}
	}
	return m.bad
}

func TestAnyStreamIsAsTheModelSays(t *testing.T) {
	ends := map[bool]int{}
	for seed := range int64(4000) {
		r := rand.New(rand.NewSource(seed))
		b := make([]byte, r.Intn(120))
		r.Read(b)
		if r.Intn(8) > 0 && len(b) > 0 {
			b[0] = 0
		}
		for range r.Intn(2) * len(b) { // many bytes 0 and 255: codes near the ends of their ranges
			b[r.Intn(len(b))] = byte(-r.Intn(2))
		}
		ends[asModel(t, b, questions(r, r.Intn(60)))]++
	}
	if ends[true] < 100 || ends[false] < 100 {
		t.Errorf("%v: too few of a kind", ends)
	}
}

// TestCutStreams: a stream without its end is told as it was up to there; then nothing is, and nothing changes.
func TestCutStreams(t *testing.T) {
	for seed := range int64(40) {
		list := questions(rand.New(rand.NewSource(seed)), 30)
		b := coded(list)
		for n := range b {
			if !asModel(t, b[:n], list) {
				t.Fatalf("P4.2: %x of %x: not bad", b[:n], b)
			}
		}
	}
}

// TestBitThatTurnsBad: the probability goes over ahead of the byte that is missing; what is told behind it is 0.
func TestBitThatTurnsBad(t *testing.T) {
	for _, e := range []struct {
		code, behind uint32
		was, then    uint16
	}{
		{0, 0, 1024, 1056},           // the range is 2^25 - 1 behind seven bits; that of 0 is below 2^24
		{0x01fffffe, 1, 1056, 1023},  // and so is that of 1
		{0x01fffffe, 1, 2017, 1954},  // that of 1 is the lesser by far
		{0x00000000, 0, 31, 31 + 63}, // that of 0 is
	} {
		s := &tape{b: begun(e.code)}
		d, p := rdec.New(s), e.was
		d.Straight(7)
		check(t, "P4.3", "seven bits", d, s, false, e.code == 0, 5)
		if d.Bit(&p) != 0 || p != e.then {
			t.Errorf("P4.1: %x with %d: not 0, or %d then", e.code, e.was, p)
		}
		check(t, "P4.1", "eight bits", d, s, true, false, 6)
		d, p = rdec.New(&tape{b: begun(e.code, 0)}), e.was
		d.Straight(7)
		if d.Bit(&p) != int(e.behind) || p != e.then || d.Bad() {
			t.Errorf("P4.1: %x with %d, and a byte more: not %d, or %d then", e.code, e.was, e.behind, p)
		}
	}
}

// TestNumbersThatTurnBad: numbers of which the first bits are 1, and there are no bytes for the last ones, are 0.
func TestNumbersThatTurnBad(t *testing.T) {
	for _, q := range []api.Ask{
		{Kind: tree, Bits: 8, Value: 0xe0},
		{Kind: reverse, Bits: 8, Value: 0x0f},
		{Kind: straight, Bits: 8, Value: 0xff},
		{Kind: straight, Bits: 32, Value: 0xf0000000},
	} {
		list := []api.Ask{q, q, q, q}
		b := coded(list)
		for n := 5; n < len(b); n++ {
			if !asModel(t, b[:n], list) {
				t.Errorf("P4.2: %x of %x: not bad", b[:n], b)
			}
		}
		s := &tape{b: begun(0xf8000000)}
		d, p := rdec.New(s), rdec.Fresh(room)
		d.Straight(4)
		if v := answer(d, q, p); v != 0 {
			t.Errorf("P4.1: %+v of %x: %d", q, s.b, v)
		}
		check(t, "P4.1", "a number", d, s, true, false, 6)
	}
}

// TestCodeLeftOver: a range 2n + 1 that is halved leaves the code 2n to no bit.
func TestCodeLeftOver(t *testing.T) {
	for bits := 1; bits <= 7; bits++ {
		last := uint32(math.MaxUint32) >> (bits - 1) // the range ahead of the last bit
		s := &tape{b: begun(last-2, 7)}
		d := rdec.New(s)
		if d.Straight(bits) != 1 {
			t.Errorf("P4.1: %d bits straight of %x", bits, s.b)
		}
		check(t, "P4.1", "bits straight", d, s, false, false, 5)
		s = &tape{b: begun(last-1, 7)}
		d = rdec.New(s)
		if v := d.Straight(bits); v != 0 {
			t.Errorf("P4.1: %d bits straight of %x: %d", bits, s.b, v)
		}
		check(t, "P4.1", "bits straight", d, s, true, false, 5)
	}
	for _, behind := range []byte{0, 7, 255} {
		d := rdec.New(&tape{b: begun(0x01fffffe, behind)}) // the range is evened out at once
		if v := d.Straight(8); v != 0 || !d.Bad() || d.Done() {
			t.Errorf("P4.1: %d, bad %v", v, d.Bad())
		}
	}
}

// TestNoBitWithProbabilitiesIsLeftOver: a bit with a probability shares out odd ranges whole.
func TestNoBitWithProbabilitiesIsLeftOver(t *testing.T) {
	s := &tape{b: begun(math.MaxUint32-1, 255, 255, 255)}
	d, p := rdec.New(s), rdec.Fresh(256)
	if d.Bit(&p[0]) != 1 || d.Tree(p, 8) != 255 || d.Reverse(p, 4) != 15 || d.Bad() {
		t.Error("P4.2: bits of the greatest code")
	}
}

// again is a source that has a byte again behind one that was missing.
type again struct {
	missing int
	asked   int
}

func (s *again) Next() (byte, bool) {
	s.asked++
	return 0, s.asked != s.missing
}

// TestBadStays: a bad decoder tells 0, and asks for nothing, and changes no probability, even if there were bytes again.
func TestBadStays(t *testing.T) {
	for missing := 1; missing < 12; missing++ {
		s := &again{missing: missing}
		d, p := rdec.New(s), rdec.Fresh(256)
		for range 100 {
			d.Straight(1)
		}
		if !d.Bad() || d.Done() || s.asked != missing {
			t.Errorf("P4.2: byte %d is missing: bad %v, %d were asked for", missing, d.Bad(), s.asked)
		}
		silent(t, d, p, 0)
		if s.asked != missing {
			t.Errorf("P4.3: byte %d is missing: %d were asked for", missing, s.asked)
		}
	}
	for _, b := range [][]byte{{1, 255, 255, 255, 255, 255, 255}, {0, 255, 255, 255, 255, 255, 255}, {0, 255, 255, 255, 254, 255, 255}} {
		s := &tape{b: b}
		d, p := rdec.New(s), rdec.Fresh(256)
		d.Straight(1)
		asked := s.asked
		silent(t, d, p, 1)
		if s.asked != asked {
			t.Errorf("P4.3: of %x: %d were asked for, not %d", b, s.asked, asked)
		}
	}
}

// silent: a bad decoder tells nothing by any call.
func silent(t *testing.T, d *rdec.Decoder, p []uint16, at int) {
	t.Helper()
	for range 40 {
		if d.Bit(&p[at]) != 0 || d.Tree(p, 8) != 0 || d.Reverse(p, 8) != 0 || d.Straight(32) != 0 {
			t.Error("P4.1: a bad decoder tells something")
		}
	}
	if !d.Bad() || d.Done() {
		t.Error("P4.2: a bad decoder became better")
	}
	if !slices.Equal(p, rdec.Fresh(len(p))) {
		t.Error("P4.1: a bad decoder changes probabilities")
	}
}

// TestOneBytePerLevel: the range is evened out when it falls below 2^24, neither earlier nor later, by one byte.
func TestOneBytePerLevel(t *testing.T) {
	s := &tape{b: make([]byte, 50)}
	d := rdec.New(s)
	for n := 1; n <= 300; n++ {
		d.Straight(1)
		if want := 5 + n/8; s.asked != want {
			t.Fatalf("P4.3: %d bits straight: %d bytes were asked for, not %d", n, s.asked, want)
		}
	}
}

// TestTwoDecoders: what one is asked doesn't matter to the other.
func TestTwoDecoders(t *testing.T) {
	r := rand.New(rand.NewSource(1))
	one, two := questions(r, 50), questions(r, 50)
	d, e := rdec.New(&tape{b: coded(one)}), rdec.New(&tape{b: coded(two)})
	p, q := rdec.Fresh(room), rdec.Fresh(room)
	for i := range one {
		if answer(d, one[i], p) != one[i].Value || answer(e, two[i], q) != two[i].Value {
			t.Fatalf("P4.1: question %d of two decoders", i)
		}
	}
}
