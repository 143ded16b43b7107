package renc_test

import (
	"bytes"
	"encoding/binary"
	"math"
	"math/rand"
	"slices"
	"testing"

	"garbler/api"
	"garbler/rdec"
	"garbler/renc"
)

// finished holds what c finishes, and what it counts ahead of that, against what was to come.
func finished(t *testing.T, promise string, c *renc.Coder, want []byte) {
	t.Helper()
	if n := c.Count(); n != len(want) {
		t.Errorf("P5.2: %d bytes are counted, not %d", n, len(want))
	}
	if b := c.Finish(); !bytes.Equal(b, want) {
		t.Errorf("%s: %x, not %x", promise, b, want)
	}
}

// coded: the bytes of questions, by a coder of their own.
func coded(list []api.Ask) []byte {
	c, p := renc.New(), rdec.Fresh(room)
	for _, q := range list {
		code(c, q, p)
	}
	return c.Finish()
}

func TestExamples(t *testing.T) {
	finished(t, "P5.2", renc.New(), make([]byte, 5))
	c, p := renc.New(), rdec.Fresh(2)
	c.Bit(&p[0], 1)
	if p[0] != 992 || p[1] != 1024 {
		t.Errorf("P5.1: probabilities behind a bit 1: %v", p)
	}
	finished(t, "P5.1", c, []byte{0, 0x7f, 0xff, 0xfc, 0})
	for _, n := range []int{1, 2, 7, 8, 9, 50, 3000} {
		p := rdec.Fresh(n)
		for i := range n {
			c.Bit(&p[i], 0)
		}
		finished(t, "P5.1", c, make([]byte, 5+n/8)) // each one halves the range, or leaves a little less
		one := uint16(1024)
		for range n {
			c.Bit(&one, 0)
		}
		if b := c.Finish(); !bytes.Equal(b, make([]byte, len(b))) {
			t.Errorf("P5.1: %d bits 0: %x", n, b)
		}
	}
}

// TestBitWithEveryProbability: what the first bit makes of it, and where the bound is.
func TestBitWithEveryProbability(t *testing.T) {
	for was := uint16(31); was <= 2017; was++ {
		c, p := renc.New(), was
		c.Bit(&p, 0)
		if p != was+(2048-was)/32 {
			t.Errorf("P5.1: a bit 0 makes %d of %d", p, was)
		}
		finished(t, "P5.1", c, make([]byte, 5))
		p = was
		c.Bit(&p, 1)
		if p != was-was/32 {
			t.Errorf("P5.1: a bit 1 makes %d of %d", p, was)
		}
		bound := math.MaxUint32 / 2048 * uint32(was)
		finished(t, "P5.1", c, binary.BigEndian.AppendUint32([]byte{0}, bound))
	}
}

// TestRestOfTheRange: a bit 1 leaves all of the range behind the bound, to the last number.
func TestRestOfTheRange(t *testing.T) {
	for was := uint16(31); was <= 2017; was++ {
		c, p := renc.New(), was
		c.Bit(&p, 1)
		c.Straight(1, 1)
		bound := math.MaxUint32 / 2048 * uint32(was)
		finished(t, "P5.1", c, binary.BigEndian.AppendUint32([]byte{0}, bound+(math.MaxUint32-bound)/2))
	}
}

// TestAnyOtherNumberIsOne: a bit is 0, or 1.
func TestAnyOtherNumberIsOne(t *testing.T) {
	for _, one := range []int{1, 2, 3, 4, 256, 1 << 16, 1 << 32, math.MaxInt, -1, -2, math.MinInt} {
		c, p := renc.New(), uint16(1024)
		c.Bit(&p, one)
		if p != 992 {
			t.Errorf("P5.1: a bit %d makes %d of 1024", one, p)
		}
		finished(t, "P5.1", c, []byte{0, 0x7f, 0xff, 0xfc, 0})
	}
}

// path: the probabilities behind a tree of so many bits, of which the first one is the greatest of v; all of them were fresh.
func path(v, bits int) []uint16 {
	p, m := rdec.Fresh(1<<bits), 1
	for i := range bits {
		one := v >> (bits - 1 - i) & 1
		p[m] = uint16(1056 - 64*one)
		m = 2*m + one
	}
	return p
}

func turned(v, bits int) int {
	back := 0
	for i := range bits {
		back = 2*back + v>>i&1
	}
	return back
}

// oneByOne: the bytes of a tree's bits, each coded as a bit, the greatest first.
func oneByOne(v, bits int) []byte {
	c, p := renc.New(), rdec.Fresh(bits)
	for i := range bits {
		c.Bit(&p[i], v>>(bits-1-i)&1)
	}
	return c.Finish()
}

// TestTreesOfAllValues: all numbers of 1 to 8 bits, with bits above that don't count.
func TestTreesOfAllValues(t *testing.T) {
	for bits := 1; bits <= 8; bits++ {
		for v := range 1 << bits {
			for _, above := range []uint32{0, 1 << bits, math.MaxUint32 << bits} {
				c, p := renc.New(), rdec.Fresh(1<<bits)
				c.Tree(p, bits, uint32(v)|above)
				if !slices.Equal(p, path(v, bits)) {
					t.Errorf("P5.1: probabilities behind a tree of %d bits, %d: %v", bits, v, p)
				}
				finished(t, "P5.1", c, oneByOne(v, bits))
				p = rdec.Fresh(1 << bits)
				c.Reverse(p, bits, uint32(v)|above)
				if !slices.Equal(p, path(turned(v, bits), bits)) {
					t.Errorf("P5.1: probabilities behind a reverse tree of %d bits, %d: %v", bits, v, p)
				}
				finished(t, "P5.1", c, oneByOne(turned(v, bits), bits))
			}
		}
	}
}

func TestStraight(t *testing.T) {
	for _, e := range []struct {
		bits int
		v    uint32
		want []byte
	}{
		{0, 0, []byte{0, 0, 0, 0, 0}},
		{0, math.MaxUint32, []byte{0, 0, 0, 0, 0}},
		{1, 0, []byte{0, 0, 0, 0, 0}},
		{1, 1, []byte{0, 0x7f, 0xff, 0xff, 0xff}},
		{1, 2, []byte{0, 0, 0, 0, 0}},
		{1, math.MaxUint32, []byte{0, 0x7f, 0xff, 0xff, 0xff}},
		{2, 1, []byte{0, 0x3f, 0xff, 0xff, 0xff}},
		{2, 2, []byte{0, 0x7f, 0xff, 0xff, 0xff}},
		{2, 3, []byte{0, 0xbf, 0xff, 0xff, 0xfe}},
		{7, 1, []byte{0, 0x01, 0xff, 0xff, 0xff}},
		{8, 1, []byte{0, 0x00, 0xff, 0xff, 0xff, 0}},
		{8, 0x5a, []byte{0, 0x59, 0xff, 0xff, 0xfc, 0}},
		{8, 255, []byte{0, 0xfe, 0xff, 0xff, 0xf8, 0}},
		{9, 0x100, []byte{0, 0x7f, 0xff, 0xff, 0xff, 0}},
		{16, 0x5a01, []byte{0, 0x5a, 0x00, 0xff, 0xfb, 0xff, 0}}, // 59 ff ff fc 00, and ff ff ff
		{32, 0, []byte{0, 0, 0, 0, 0, 0, 0, 0, 0}},
		{32, 1, []byte{0, 0, 0, 0, 0, 0xff, 0xff, 0xff, 0}},
	} {
		c := renc.New()
		c.Straight(e.bits, e.v)
		finished(t, "P5.1", c, e.want)
	}
}

// TestStraightOfAllBits: rows of 0 to 32 bits are their bits one by one, whatever bits there are above.
func TestStraightOfAllBits(t *testing.T) {
	for bits := range 33 {
		for _, v := range []uint32{0, 1, 0x80000000, 0x12345678, 0xdeadbeef, 0x55555555, 0xaaaaaaaa, math.MaxUint32} {
			c, d := renc.New(), renc.New()
			for range 3 {
				c.Straight(bits, v)
				for i := range bits {
					d.Straight(1, v>>(bits-1-i)&1)
				}
			}
			finished(t, "P5.1", c, d.Finish())
		}
	}
}

// TestOneBytePerLevel: the range is evened out when it falls below 2^24, neither earlier nor later, by one byte.
func TestOneBytePerLevel(t *testing.T) {
	c := renc.New()
	for n := 1; n <= 300; n++ {
		c.Straight(1, uint32(n/3&1))
		if got, want := c.Count(), 5+n/8; got != want {
			t.Fatalf("P5.2: %d bits straight: %d bytes are counted, not %d", n, got, want)
		}
	}
}

// asModel codes questions, and holds bytes and probabilities against those of the model.
func asModel(t *testing.T, c *renc.Coder, list []api.Ask) *model {
	t.Helper()
	m, p, want := newModel(), rdec.Fresh(room), rdec.Fresh(room)
	for i, q := range list {
		code(c, q, p)
		m.code(q, want)
		if n := c.Count(); n != m.n {
			t.Fatalf("P5.2: %v: %d bytes, not %d, are counted behind question %d", list, n, m.n, i)
		}
		if !slices.Equal(p, want) {
			t.Fatalf("P5.1: %v: probabilities behind question %d", list, i)
		}
	}
	if b := c.Finish(); !bytes.Equal(b, m.bytes()) {
		t.Fatalf("P5.1: %v: %x, not %x", list, b, m.bytes())
	}
	return m
}

// TestAnyQuestions: one coder, which begins anew each time.
func TestAnyQuestions(t *testing.T) {
	c := renc.New()
	for seed := range int64(1500) {
		r := rand.New(rand.NewSource(seed))
		asModel(t, c, questions(r, r.Intn(60)))
	}
}

// TestCarries: they go through rows of bytes FF that wait, of all lengths; other such rows stay.
func TestCarries(t *testing.T) {
	c, through, stay := renc.New(), map[int]int{}, map[int]int{}
	for seed := range int64(1500) {
		r := rand.New(rand.NewSource(seed))
		m := asModel(t, c, along(r, narrow(r)))
		for run, times := range m.turned {
			through[run] += times
		}
		full := 0
		for _, b := range m.bytes() {
			full++
			if b != 0xff {
				full = 0
			}
			stay[full]++
		}
	}
	for run := range 20 {
		if through[run] == 0 || stay[run+1] == 0 {
			t.Errorf("of %d bytes FF: %d carries; of one more: %d rows that stay: some aren't looked at", run, through[run], stay[run+1])
		}
	}
}

// TestJustACarry: low is 2^32, nothing more, when a byte is given.
func TestJustACarry(t *testing.T) {
	for behind := range 12 {
		c, p := renc.New(), []uint16{1980, 163, 1514}
		for i, one := range []int{1, 0, 1} {
			c.Bit(&p[i], one)
		}
		c.Straight(behind, 0) // low stays, the range doesn't
		want := append([]byte{0, 0xf8}, make([]byte, c.Count()-2)...)
		finished(t, "P5.2", c, want)
	}
}

// TestEveryEnd: questions are finished behind each of them, many where bytes FF wait.
func TestEveryEnd(t *testing.T) {
	waiting := 0
	for seed := range int64(60) {
		r := rand.New(rand.NewSource(seed))
		list := along(r, narrow(r))
		for n := range list {
			b := asModel(t, renc.New(), list[:n]).bytes()
			if bytes.Contains(b, []byte{0xff, 0xff, 0xff, 0xff, 0xff, 0xff, 0xff}) {
				waiting++
			}
		}
	}
	if waiting < 100 {
		t.Errorf("%d ends with rows of FF are too few", waiting)
	}
}

// TestBeginsAnew: behind a finish, a coder is as a new one, wherever it was: low, range and what waited.
func TestBeginsAnew(t *testing.T) {
	for seed := range int64(300) {
		r := rand.New(rand.NewSource(seed))
		first, second := along(r, narrow(r)), questions(r, 10)
		c, p := renc.New(), rdec.Fresh(room)
		for _, q := range first[:r.Intn(len(first)+1)] {
			code(c, q, p)
		}
		c.Finish()
		finished(t, "P5.2", c, make([]byte, 5))
		finished(t, "P5.2", c, make([]byte, 5))
		p = rdec.Fresh(room)
		for _, q := range second {
			code(c, q, p)
		}
		finished(t, "P5.2", c, coded(second))
	}
}

// TestCountChangesNothing: a coder that is never asked for its count gives the same.
func TestCountChangesNothing(t *testing.T) {
	for seed := range int64(300) {
		r := rand.New(rand.NewSource(seed))
		list := along(r, narrow(r))
		c, p := renc.New(), rdec.Fresh(room)
		for _, q := range list {
			for range 3 {
				c.Count()
			}
			code(c, q, p)
		}
		n := c.Count()
		if again := c.Count(); again != n {
			t.Errorf("P5.2: %d bytes are counted, then %d", n, again)
		}
		finished(t, "P5.2", c, coded(list))
	}
}

// TestBytesAreNewMemory: bytes that were handed out aren't the coder's any more, nor is the room behind them.
func TestBytesAreNewMemory(t *testing.T) {
	r := rand.New(rand.NewSource(7))
	lists := [][]api.Ask{questions(r, 40), questions(r, 60), questions(r, 20), nil, nil}
	c, out := renc.New(), [][]byte{}
	for _, list := range lists {
		p := rdec.Fresh(room)
		for i, q := range list {
			code(c, q, p)
			if i == len(list)/2 && len(out) > 0 {
				last := out[len(out)-1]
				for i := range last[:cap(last)] {
					last[:cap(last)][i] ^= 0xa5
				}
			}
		}
		out = append(out, c.Finish())
	}
	for i, list := range lists {
		want := coded(list)
		if i < 2 { // written over while the next ones were coded
			for i := range want {
				want[i] ^= 0xa5
			}
		}
		if !bytes.Equal(out[i], want) {
			t.Errorf("P5.2: the bytes of list %d were changed behind their finish", i)
		}
	}
}

// TestOtherProbabilitiesStay: of the probabilities, just those on a tree's path change, and none beside it.
func TestOtherProbabilitiesStay(t *testing.T) {
	c, p := renc.New(), rdec.Fresh(40)
	c.Tree(p[8:16:16], 3, 5)
	c.Reverse(p[24:32:32], 3, 5)
	c.Straight(32, math.MaxUint32)
	want := rdec.Fresh(40)
	copy(want[8:], path(5, 3))
	copy(want[24:], path(5, 3))
	if !slices.Equal(p, want) {
		t.Errorf("P5.1: probabilities behind two trees: %v", p)
	}
}

// decoded holds what a decoder tells of a coder's bytes, and bytes behind them, against what was coded.
func decoded(t *testing.T, list []api.Ask, b, behind []byte) {
	t.Helper()
	s := &tape{b: append(bytes.Clone(b), behind...)}
	d, p := rdec.New(s), rdec.Fresh(room)
	for i, q := range list {
		if v := answer(d, q, p); v != q.Value {
			t.Fatalf("P5.3: %x, %x behind it: question %d, %+v, is told %d", b, behind, i, q, v)
		}
	}
	if d.Bad() || !d.Done() || s.asked != len(b) {
		t.Fatalf("P5.3: %x, %x behind it: bad %v, done %v; %d bytes were asked for", b, behind, d.Bad(), d.Done(), s.asked)
	}
}

// TestWhatIsCodedIsDecoded: and just these bytes are asked for, whatever stands behind them.
func TestWhatIsCodedIsDecoded(t *testing.T) {
	for seed := range int64(1000) {
		r := rand.New(rand.NewSource(seed))
		for _, list := range [][]api.Ask{questions(r, r.Intn(80)), along(r, narrow(r))} {
			b := coded(list)
			decoded(t, list, b, nil)
			decoded(t, list, b, []byte{255, 255, 255, 255, 255, 255})
			decoded(t, list, b, []byte{byte(r.Intn(256)), 0})
		}
	}
}

// TestBitsOfOneKind: probabilities come to their ends, where a bit of the other kind takes nearly all of the range away.
func TestBitsOfOneKind(t *testing.T) {
	for seed := range int64(50) {
		r := rand.New(rand.NewSource(seed))
		list := make([]api.Ask, 3000)
		for i := range list {
			list[i] = api.Ask{Kind: bit, At: i % 2, Value: uint32(i % 2)}
			if r.Intn(150) == 0 {
				list[i].Value ^= 1
			}
		}
		decoded(t, list, asModel(t, renc.New(), list).bytes(), nil)
	}
}

// TestNoProbabilities: nothing is promised of numbers that are no probabilities, but that calls end, and don't panic.
func TestNoProbabilities(t *testing.T) {
	for was := range 1 << 16 {
		c := renc.New()
		for one := range 2 {
			p := slices.Repeat([]uint16{uint16(was)}, 256)
			c.Bit(&p[0], one)
			c.Tree(p, 8, -uint32(one))
			c.Reverse(p, 8, uint32(was))
			c.Straight(32, uint32(was)*65521)
		}
		if n, b := c.Count(), c.Finish(); len(b) != n {
			t.Fatalf("P5.2: with %d: %d bytes, and %d are counted", was, len(b), n)
		}
		finished(t, "P5.2", c, make([]byte, 5))
	}
}

// TestTwoCoders: what one codes doesn't matter to the other.
func TestTwoCoders(t *testing.T) {
	r := rand.New(rand.NewSource(1))
	one, two := questions(r, 50), questions(r, 50)
	c, d := renc.New(), renc.New()
	p, q := rdec.Fresh(room), rdec.Fresh(room)
	for i := range one {
		code(c, one[i], p)
		code(d, two[i], q)
	}
	finished(t, "P5.1", c, coded(one))
	finished(t, "P5.1", d, coded(two))
}
