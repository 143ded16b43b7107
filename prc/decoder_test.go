package prc_test

import (
	"encoding/binary"
	"math"
	"math/rand"
	"slices"
	"testing"

	"garbler/prc"
	"garbler/src"
)

// coded: a stream that begins with this code.
func coded(code uint32) []byte { return binary.BigEndian.AppendUint32([]byte{0}, code) }

// stands holds a decoder, and how often its source was asked, against what was to come.
func stands(t *testing.T, what string, d *prc.Decoder, s *counted, bad, done bool, asked int) {
	t.Helper()
	if d.Bad() != bad || d.Done() != done || s.asked != asked {
		t.Errorf("P6.1: %s: bad %v, done %v, %d bytes asked for; not %v, %v, %d", what, d.Bad(), d.Done(), s.asked, bad, done, asked)
	}
}

func TestPlacesOfZeros(t *testing.T) {
	for _, total := range []uint32{1, 2, 3, 257, 1<<20 - 1, 1 << 20} {
		s := from(make([]byte, 5))
		d := prc.NewDecoder(s)
		if place := d.Place(total); place != 0 {
			t.Errorf("P6.1: place %d of %d", place, total)
		}
		stands(t, "a place", d, s, false, true, 5)
	}
}

func TestBeginsWithAZero(t *testing.T) {
	for first := 1; first < 256; first++ {
		s := from([]byte{byte(first), 0, 0, 0, 0, 0, 0})
		stays(t, prc.NewDecoder(s), s, 1)
	}
}

func TestBeginsWithTheCode(t *testing.T) {
	for _, code := range []uint32{0, 1, 255, 1 << 8, 1 << 16, 1 << 24, 1 << 31, 0xff000000, 0xfffeffff, 0xfffffffe} {
		s := from(coded(code), []byte{9, 9, 9})
		d := prc.NewDecoder(s)
		stands(t, "begun", d, s, false, code == 0, 5)
		if one := d.Bit(1, 1); one != int(code>>31) { // the bound is 2^31 - 1
			t.Errorf("P6.1: the code %x: bit %d", code, one)
		}
	}
	s := from(coded(math.MaxUint32), []byte{9, 9, 9})
	stays(t, prc.NewDecoder(s), s, 5)
}

func TestBeginsWithFiveBytes(t *testing.T) {
	for n := range 5 {
		s := from(make([]byte, n))
		stays(t, prc.NewDecoder(s), s, n+1)
	}
	if d := prc.NewDecoder(nil); !d.Bad() || d.Done() || d.Place(1) != 0 || d.Bit(1, 1) != 0 {
		t.Error("P6.1: of no source")
	}
}

// TestPlaceAtItsEnds: with wholes of all kinds, codes at both ends of places.
func TestPlaceAtItsEnds(t *testing.T) {
	for total := uint32(1); total <= 1<<20; total += 1 + total/9 {
		unit := math.MaxUint32 / total
		for _, want := range []uint32{0, 1, total / 2, total - 2, total - 1} {
			if want >= total {
				continue
			}
			for _, code := range []uint32{want * unit, want*unit + unit - 1} {
				if code == math.MaxUint32 { // that is no code
					code--
				}
				s := from(coded(code))
				d := prc.NewDecoder(s)
				if place := d.Place(total); place != want {
					t.Fatalf("P6.1: of %d with the code %x: place %d, not %d", total, code, place, want)
				}
				stands(t, "a place", d, s, false, code == 0, 5)
			}
		}
	}
}

// TestPlaceBeyondItsWhole: what the range leaves over when it is divided is no place.
func TestPlaceBeyondItsWhole(t *testing.T) {
	for _, total := range []uint32{2, 4, 7, 256, 1000, 65536, 1<<20 - 1, 1 << 20} {
		first := math.MaxUint32 / total * total
		for _, code := range []uint32{first, math.MaxUint32 - 1} {
			s := from(coded(code), []byte{1, 2, 3})
			d := prc.NewDecoder(s)
			if place := d.Place(total); place != 0 {
				t.Errorf("P6.1: of %d with the code %x: place %d", total, code, place)
			}
			stays(t, d, s, 5)
		}
	}
}

// TestTakeAtItsEnds: of a share that was taken, the whole range is left, to its last number, and nothing of its neighbours.
func TestTakeAtItsEnds(t *testing.T) {
	const total, unit = 1000, math.MaxUint32 / 1000
	for _, e := range [][2]uint32{{0, 1}, {0, total}, {1, 5}, {499, 2}, {999, 1}, {5, 995}} {
		start, size := e[0], e[1]
		for i := range uint32(2) {
			s := from(coded(start*unit+i*(size*unit-1)), []byte{0, 0})
			d := prc.NewDecoder(s)
			if place := d.Place(total); place != start+i*(size-1) {
				t.Errorf("P6.1: place %d of the share %v", place, e)
			}
			d.Take(start, size)
			stands(t, "a share's end", d, s, false, i == 0, 5+levels(uint64(size)*unit))
			if place := d.Place(1); place != 0 || d.Bad() {
				t.Errorf("P6.1: the end %d of the share %v lies beyond it", i, e)
			}
		}
	}
}

// levels: how many bytes it takes till a range is 2^24 at least.
func levels(span uint64) int {
	n := 0
	for ; span < 1<<24; span *= 256 {
		n++
	}
	return n
}

// TestBitAtItsBound: with probabilities of all bits, codes at both sides of the bound, and at both ends.
func TestBitAtItsBound(t *testing.T) {
	for power := 1; power <= 16; power++ {
		most := uint32(1)<<power - 1
		for _, size := range []uint32{1, most/3 + 1, most/2 + 1, most} {
			bound := uint32(math.MaxUint32) >> power * size
			for _, code := range []uint32{0, bound - 1, bound, math.MaxUint32 - 1} {
				s := from(coded(code), []byte{0, 0})
				d := prc.NewDecoder(s)
				want, left, span := 0, code, bound
				if code >= bound {
					want, left, span = 1, code-bound, math.MaxUint32-bound
				}
				if one := d.Bit(size, power); one != want {
					t.Errorf("P6.1: %d of 2^%d with the code %x: bit %d", size, power, code, one)
				}
				stands(t, "a bit", d, s, false, left == 0, 5+levels(uint64(span)))
			}
		}
	}
}

// TestLevels: a range of 2^24 isn't levelled, one below it is, by as many bytes as it takes.
func TestLevels(t *testing.T) {
	for _, e := range []struct {
		total, size uint32
		more        int
	}{
		{1, 1, 0},
		{255, 1, 0},
		{256, 1, 1}, // 2^24 - 1
		{1<<20 - 1, 4096, 0},
		{1<<20 - 1, 4095, 1},
		{1<<16 - 1, 255, 1},
		{1 << 16, 1, 2}, // 2^16 - 1
		{1<<16 - 1, 1, 1},
		{1 << 20, 1, 2},
		{1 << 20, 1 << 20, 0},
	} {
		s := from(make([]byte, 20))
		d := prc.NewDecoder(s)
		d.Place(e.total)
		stands(t, "a place", d, s, false, true, 5)
		d.Take(0, e.size)
		stands(t, "a share", d, s, false, true, 5+e.more)
	}
}

// narrowed: a decoder of which the range is 2^24, the code ffff80 (base sixteen); so many bytes, all of them 0, come behind that.
func narrowed(t *testing.T, there int) (*prc.Decoder, *counted) {
	t.Helper()
	s := from(coded(0xffff80), make([]byte, there))
	d := prc.NewDecoder(s)
	if place := d.Place(1<<20 - 1); place != 4095 {
		t.Errorf("P6.1: place %d", place)
	}
	d.Take(0, 4096)
	stands(t, "2^24", d, s, false, false, 5)
	return d, s
}

// TestMissingBytesOfAShare: of the three bytes of a levelling any may be the first that is missing.
func TestMissingBytesOfAShare(t *testing.T) {
	for there := range 4 {
		d, s := narrowed(t, there)
		if place := d.Place(1 << 20); place != 1<<20-8 {
			t.Errorf("P6.1: place %d", place)
		}
		d.Take(1<<20-8, 1) // 16 are left
		if there == 3 {
			stands(t, "the least share", d, s, false, true, 8)
		} else {
			stays(t, d, s, 5+there+1)
		}
	}
}

// TestMissingBytesOfABit: it is 0 then, whatever it was.
func TestMissingBytesOfABit(t *testing.T) {
	for there := range 3 {
		d, s := narrowed(t, there)
		one := d.Bit(1<<16-1, 16) // 256 are left
		if there == 2 {
			stands(t, "the least bit", d, s, false, false, 7)
		} else {
			stays(t, d, s, 5+there+1)
		}
		if one != there/2 {
			t.Errorf("P6.1: of two bytes there are %d, and the bit is %d", there, one)
		}
	}
}

// again is a source that has bytes again behind one that was missing.
type again struct{ missing, asked int }

func (s *again) Next() (byte, bool) {
	s.asked++
	return 0, s.asked != s.missing
}

// TestBadStays: even if there were bytes again.
func TestBadStays(t *testing.T) {
	for missing := 1; missing < 15; missing++ {
		s := &again{missing: missing}
		d := prc.NewDecoder(s)
		for range 20 {
			d.Place(256)
			d.Take(0, 1)
			d.Bit(1, 4)
		}
		if !d.Bad() || d.Done() || s.asked != missing {
			t.Errorf("P6.1: byte %d is missing: bad %v, done %v; %d were asked for", missing, d.Bad(), d.Done(), s.asked)
		}
	}
}

func TestAnyStreamIsAsTheModelSays(t *testing.T) {
	ends := map[ended]int{}
	for seed := range int64(4000) {
		r := rand.New(rand.NewSource(seed))
		b := wavy(r)
		if slices.Equal(b[1:5], []byte{255, 255, 255, 255}) {
			b[4]-- // else it doesn't begin
		}
		_, end := along(t, r, b)
		ends[end]++
	}
	for _, end := range []ended{{missing: 1}, {missing: 2}, {missing: 3}, {beyond: true}} {
		if ends[end] == 0 {
			t.Errorf("no stream ended by %+v", end)
		}
	}
}

// endless is a source that always has a byte.
type endless byte

func (b endless) Next() (byte, bool) { return byte(b), true }

// TestNoShares: nothing is promised of what is no share, but that calls end, and don't panic.
func TestNoShares(t *testing.T) {
	odd := []uint32{0, 1, 2, 255, 1 << 16, 1<<20 + 1, 1 << 24, 1 << 31, math.MaxUint32}
	for _, total := range odd {
		for _, size := range odd {
			d := prc.NewDecoder(endless(0))
			d.Take(size, total)
			d.Place(total)
			d.Place(size)
			d.Take(total, size)
			for _, power := range []int{0, 1, 16, 17, 31, 32, 33, 64, math.MaxInt, -1, math.MinInt} {
				if one := d.Bit(size, power); one != 0 && one != 1 {
					t.Errorf("P6.1: bit %d", one)
				}
				if place := d.Place(total); total > 0 && place >= total || total == 0 && place != 0 {
					t.Errorf("P6.1: place %d of %d", place, total)
				}
			}
		}
	}
}

// TestTwoDecoders: what one is asked doesn't matter to the other.
func TestTwoDecoders(t *testing.T) {
	d, e := prc.NewDecoder(src.NewFeed(coded(0x12345678))), prc.NewDecoder(src.NewFeed(coded(0x9abcdef0)))
	if p, q := d.Place(256), e.Place(256); p != 0x12 || q != 0x9a {
		t.Errorf("P6.1: places %x and %x", p, q)
	}
	d.Take(0x10, 0x20)
	e.Take(0x90, 0x10)
	if p, q := d.Bit(1, 3), e.Bit(1, 1); p != 0 || q != 1 {
		t.Errorf("P6.1: bits %d and %d", p, q)
	}
}
